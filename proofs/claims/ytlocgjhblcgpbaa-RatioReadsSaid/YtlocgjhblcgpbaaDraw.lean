/-
  Contracts of what the statements draw from a tape: choices and fractions.
-/
import Derived.Test.YtlocgjhblcgpbaaTape
import Derived.Test.YtlocgjhblcgpbaaReduce
import Derived.Deep.DeepCutAuto
import Derived.Deep.CutBlock
namespace Go.Proofs.Ytlocgjhblcgpbaa
open Go.RowKit
set_option linter.unusedSimpArgs false
set_option linter.unusedVariables false

theorem gNew {a b : World} {row : Option Nat} (h : a.grownBy b row) {p : Addr} (hp : a.heap.size ≤ p.block) (v : Value) : a.grownBy (b.setCell p v) row :=
  ⟨h.os, h.tape, h.output, by simpa using h.size, fun j hj hn => (Below.heap_setCell b p v j (by omega)).trans (h.block j hj hn)⟩
theorem gAl {a b : World} {row : Option Nat} (h : a.grownBy b row) (o : Obj) : a.grownBy (b.alloc o) row :=
  ⟨h.os, h.tape, h.output, by have := h.size; simp; omega, fun j hj hn => (Below.heap_alloc b o j (Nat.lt_of_lt_of_le hj h.size)).trans (h.block j hj hn)⟩
theorem Tp.setFar {w : World} {B g : Nat} {o : Option Addr} {n c : Nat} {z : Nat → Int} (h : Tp w B g o n c z) {p : Addr} (hp : g < p.block) (v : Value) : Tp (w.setCell p v) B g o n c z := by
  obtain ⟨k, hk, hB⟩ := h.blk
  exact ⟨h.row.keep fun j hj => Below.heap_setCell w p v j (by have := h.bg; omega), h.bg, h.few, k, hk, hB.far (by omega) v⟩

def GetBool (w : World) (B g : Nat) (o : Option Addr) (n c : Nat) (z : Nat → Int) (e : Ending) (w' : World) : Prop :=
  ∃ v : Bool, e = .returned (.bool v) ∧ Tp w' B g o n c z ∧ w.grownBy w' (some g)
def GetRat (P : Int → Int → Prop) (w : World) (B g : Nat) (o : Option Addr) (n c : Nat) (z : Nat → Int) (e : Ending) (w' : World) : Prop :=
  ∃ a d, P a d ∧ e = .returned (.agg #[.int .i64 a, .int .i64 d]) ∧ Tp w' B g o n c z ∧ w.grownBy w' (some g)
def SmallR (a d : Int) : Prop := ∃ x y : Int, -30 ≤ x ∧ x ≤ 30 ∧ 1 ≤ y ∧ y ≤ 12 ∧ a = newNum x y ∧ d = newDen x y

set_option maxHeartbeats 1000000 in
theorem tape_one (N : Int) (hN : 1 ≤ N) (hN1 : N < 1000000) {w : World} {B g : Nat} {o : Option Addr} {n c : Nat} {z : Nat → Int} (h : Tp w B g o n c z) :
    Calls Try.prog 40 #[.pointer (some ⟨g, 0, none⟩), .int .i64 N] w (GetBool w B g o n c z) := by
  go_enter Try.func40, Try.ntmps40
  go_wp2_with fail
  refine (tape_next N hN (by omega) h).mono ?_
  rintro e w1 ⟨v, ⟨hv0, hv1⟩, rfl, ht, hg⟩
  have hfin : ∀ b, GetBool w B g o n c z (.returned (.bool b)) w1 := fun b => ⟨b, rfl, ht, hg⟩
  have HF := Lib.hid hfin
  clear hfin ht hg h
  go_wp2
  go_ret
  exact HF.out _

set_option maxHeartbeats 1000000 in
theorem tape_pick (b m cap : Nat) (y : Nat → Int) (hm : 1 ≤ m) (hm1 : m < 1000000) {w : World} {B g : Nat} {o : Option Addr} {n c : Nat} {z : Nat → Int} (h : Tp w B g o n c z)
    (hc : ∀ i, i < m → w.cell? ⟨b, i, none⟩ = some (.int .i64 (y i))) (hb : b < w.heap.size) (hbg : b ≠ g) :
    Calls Try.prog 38 #[.pointer (some ⟨g, 0, none⟩), .slice (some ⟨b, 0, none⟩) m cap] w (GetInt (fun v => ∃ i, i < m ∧ v = y i) w B g o n c z) := by
  have HC := Lib.hid hc
  clear hc
  go_enter Try.func38, Try.ntmps38
  go_wp2_with fail
  refine (tape_next (m : Int) (by omega) (by omega) h).mono ?_
  rintro e w1 ⟨v, ⟨hv0, hv1⟩, rfl, ht, hg⟩
  obtain ⟨i, rfl⟩ := Int.eq_ofNat_of_zero_le hv0
  have hi : i < m := by omega
  have hcell : w1.cell? ⟨b, i, none⟩ = some (.int .i64 (y i)) := (World.cell?_of_block (a := ⟨b, i, none⟩) (hg.block b hb (by intro e; cases e; exact hbg rfl))).trans (HC.out i hi)
  have hfin : ∀ k, GetInt (fun v => ∃ i, i < m ∧ v = y i) w B g o n c z (.returned (.int .i64 (y i))) (w1.drewN k) := fun k => ⟨_, ⟨i, hi, rfl⟩, rfl, ht.later (bDr (Below.refl _ _) k), gTr hg (gDr w1 k _)⟩
  have HF := Lib.hid hfin
  clear hfin ht hg h
  go_wp2
  go_ret
  exact HF.out 0

set_option maxHeartbeats 2000000 in
theorem tape_small {w : World} {B g : Nat} {o : Option Addr} {n c : Nat} {z : Nat → Int} (h : Tp w B g o n c z) :
    Calls Try.prog 55 #[.pointer (some ⟨g, 0, none⟩)] w (GetRat SmallR w B g o n c z) := by
  have hgl := h.lt
  have hne : some w.heap.size ≠ some g := by intro e; cases e; omega
  go_enter Try.func55, Try.ntmps55
  go_wp2_with fail
  refine (tape_range (-30) 30 (by omega) (by omega) (by omega) (h.alloc _)).mono ?_
  rintro e w1 ⟨x, ⟨hx0, hx1⟩, rfl, ht1, hg1⟩
  have B1 := Lib.hid ((Blk.newAt (w := w) (t := 26) (cs := #[.int .i64 0, .int .i64 0]) rfl).grown hg1 hne)
  have G1 := Lib.hid (gTr (gBe (bAl (Below.refl _ w) _)) hg1)
  clear hg1 h
  go_wp2_with fail
  refine (tape_range 1 12 (by omega) (by omega) (by omega) ht1).mono ?_
  rintro e w2 ⟨y, ⟨hy0, hy1⟩, rfl, ht2, hg2⟩
  have B2 := Lib.hid (B1.out.grown hg2 hne)
  have G2 := Lib.hid (gTr G1.out hg2)
  clear hg2 ht1 B1 G1
  go_wp2_with fail
  refine (r_new x y (by omega) (by omega) (by omega) (by omega) _).mono ?_
  rintro e w3 ⟨rfl, hb3⟩
  have B3 := Lib.hid (B2.out.later hb3)
  have G3 := Lib.hid (gTr G2.out (gBe hb3))
  have T3 := Lib.hid (ht2.later hb3)
  clear hb3 ht2 B2 G2
  obtain ⟨⟨c0, c1⟩, ⟨f0, f1⟩, k⟩ := B3.out.two
  have hP : Hid (SmallR (newNum x y) (newDen x y)) := ⟨x, y, hx0, hx1, hy0, hy1, rfl, rfl⟩
  go_wp2
  refine bodyPost_ret (v := .agg #[.int .i64 (newNum x y), .int .i64 (newDen x y)]) (by simp [results, Try.results55, go_sem, c0, c1, k]) rfl ⟨_, _, hP.out, rfl, ?_, ?_⟩
  · exact ((T3.out.setFar (by exact hgl) _).setFar (by exact hgl) _).alloc _
  · exact gAl (gNew (gNew G3.out (Nat.le_refl _) _) (Nat.le_refl _) _) _

theorem valid_new (n d : Int) (h : newErr n d = 0) : Frac.valid (newNum n d) (newDen n d) = true := by
  unfold newErr at h
  by_cases hd : d = 0
  · rw [if_pos hd] at h; omega
  rw [if_neg hd] at h
  have hf : Frac.fit n.natAbs d.natAbs = true := by
    cases e : Frac.fit n.natAbs d.natAbs
    · unfold rerr at h; rw [e] at h; exact absurd h (by decide)
    · rfl
  have hg : 0 < Nat.gcd n.natAbs d.natAbs := Nat.gcd_pos_of_pos_right _ (by omega)
  have hco : Nat.gcd (n.natAbs / Nat.gcd n.natAbs d.natAbs) (d.natAbs / Nat.gcd n.natAbs d.natAbs) = 1 := Nat.coprime_div_gcd_div_gcd hg
  have hC : 0 < d.natAbs / Nat.gcd n.natAbs d.natAbs := Nat.div_pos (Nat.le_of_dvd (by omega) (Nat.gcd_dvd_right _ _)) hg
  unfold Frac.fit Frac.M at hf
  simp only [Bool.and_eq_true, decide_eq_true_eq] at hf
  have hf' : Frac.fit n.natAbs d.natAbs = true := by unfold Frac.fit Frac.M; rw [decide_eq_true hf.1, decide_eq_true hf.2]; rfl
  have e1 : newDen n d = ((d.natAbs / Nat.gcd n.natAbs d.natAbs : Nat) : Int) := by unfold newDen rden Frac.den; rw [if_neg hd, hf']; rfl
  have e2 : newNum n d = ((n.natAbs / Nat.gcd n.natAbs d.natAbs : Nat) : Int) ∨ newNum n d = -((n.natAbs / Nat.gcd n.natAbs d.natAbs : Nat) : Int) := by
    unfold newNum rnum Frac.num
    rw [if_neg hd, hf']
    cases sgnOf n d
    · exact .inl rfl
    · exact .inr rfl
  generalize n.natAbs / Nat.gcd n.natAbs d.natAbs = A at *
  generalize d.natAbs / Nat.gcd n.natAbs d.natAbs = C at *
  have e3 : (newNum n d).natAbs = A := by omega
  have e4 : (newDen n d).natAbs = C := by omega
  unfold Frac.valid
  rw [e3, e4, hco, decide_eq_true (show 1 ≤ newDen n d by omega), decide_eq_true (show newDen n d ≤ 1152921504606846976 by omega), decide_eq_true (show -1152921504606846976 ≤ newNum n d by omega), decide_eq_true (show newNum n d ≤ 1152921504606846976 by omega)]
  rfl

/-- a tape's state inside Ratio: its own result block R, two words drawn -/
def InRat (w : World) (B g : Nat) (o : Option Addr) (n c : Nat) (z : Nat → Int) (v : Value) (wx : World) : Prop :=
  ∃ x : Int, v = .int .i64 x ∧ I64 x ∧ Tp wx B g o n c z ∧ w.grownBy wx (some g) ∧ Blk wx w.heap.size 26 #[.int .i64 0, .int .i64 0]
def numAt (i : Nat) : Int := [1152921504606846976, 1152921504606846975, -1152921504606846976, 576460752303423488, 1073741824, 3486784401, -1000000007, 1152921504606846883].getD i 0
def denAt (i : Nat) : Int := [1152921504606846976, 1152921504606846975, 576460752303423488, 1073741824, 1000000000, 1000000007, 432345564227567616, 1152921504606846869].getD i 0
theorem numAt_bd (i : Nat) (h : i < 8) : I64 (numAt i) := by
  have : i = 0 ∨ i = 1 ∨ i = 2 ∨ i = 3 ∨ i = 4 ∨ i = 5 ∨ i = 6 ∨ i = 7 := by omega
  unfold I64
  rcases this with rfl | rfl | rfl | rfl | rfl | rfl | rfl | rfl <;> decide
theorem denAt_bd (i : Nat) (h : i < 8) : I64 (denAt i) := by
  have : i = 0 ∨ i = 1 ∨ i = 2 ∨ i = 3 ∨ i = 4 ∨ i = 5 ∨ i = 6 ∨ i = 7 := by omega
  unfold I64
  rcases this with rfl | rfl | rfl | rfl | rfl | rfl | rfl | rfl <;> decide
def ValidR (a d : Int) : Prop := Frac.valid a d = true

set_option maxRecDepth 100000 in
set_option maxHeartbeats 4000000 in
theorem tape_ratio {w : World} {B g : Nat} {o : Option Addr} {n c : Nat} {z : Nat → Int} (h : Tp w B g o n c z) :
    Calls Try.prog 41 #[.pointer (some ⟨g, 0, none⟩)] w (GetRat ValidR w B g o n c z) := by
  have hgl := h.lt
  have hne : some w.heap.size ≠ some g := by intro e; cases e; omega
  go_enter Try.func41, Try.ntmps41
  go_wp2_with fail
  refine (tape_range (-9) 9 (by omega) (by omega) (by omega) (h.alloc _)).mono ?_
  rintro e w1 ⟨x, ⟨hx0, hx1⟩, rfl, ht1, hg1⟩
  have B1 := Lib.hid ((Blk.newAt (w := w) (t := 26) (cs := #[.int .i64 0, .int .i64 0]) rfl).grown hg1 hne)
  have G1 := Lib.hid (gTr (gBe (bAl (Below.refl _ w) _)) hg1)
  clear hg1 h
  go_wp2_with fail
  refine (tape_range 1 9 (by omega) (by omega) (by omega) ht1).mono ?_
  rintro e w2 ⟨y, ⟨hy0, hy1⟩, rfl, ht2, hg2⟩
  have B2 := Lib.hid (B1.out.grown hg2 hne)
  have G2 := Lib.hid (gTr G1.out hg2)
  clear hg2 ht1 B1 G1
  go_wp2_with fail
  refine (tape_one 4 (by omega) (by omega) ht2).mono ?_
  rintro e w3 ⟨v3, rfl, ht3, hg3⟩
  have S3 : Aside (Tp w3 B g o n c z ∧ w.grownBy w3 (some g) ∧ Blk w3 w.heap.size 26 #[.int .i64 0, .int .i64 0]) := ⟨ht3, gTr G2.out hg3, B2.out.grown hg3 hne⟩
  clear hg3 ht3 ht2 B2 G2
  go_upto_if 12 with (fail)
  go_cut [3] (fun s3 wx => InRat w B g o n c z s3 wx)
  case first =>
    cases v3
    · go_wp2_with fail
      go_meet
      exact ⟨x, rfl, ⟨by omega, by omega⟩, S3.out⟩
    · go_wp2_with fail
      refine (tape_pick w3.heap.size 8 8 numAt (by omega) (by omega) (S3.out.1.alloc _) ?_ (by simp) (by have := S3.out.1.lt; omega)).mono ?_
      · intro i hi
        have : i = 0 ∨ i = 1 ∨ i = 2 ∨ i = 3 ∨ i = 4 ∨ i = 5 ∨ i = 6 ∨ i = 7 := by omega
        rcases this with rfl | rfl | rfl | rfl | rfl | rfl | rfl | rfl <;> exact Blk.cell (Blk.newAt rfl) _
      rintro e w4 ⟨u, ⟨i, hi, rfl⟩, rfl, ht4, hg4⟩
      have S4 : Aside (Tp w4 B g o n c z ∧ w.grownBy w4 (some g) ∧ Blk w4 w.heap.size 26 #[.int .i64 0, .int .i64 0]) := ⟨ht4, gTr (gAl S3.out.2.1 _) hg4, (S3.out.2.2.alloc _).grown hg4 hne⟩
      clear ht4 hg4 S3
      go_wp2_with fail
      go_meet
      exact ⟨numAt i, rfl, numAt_bd i hi, S4.out⟩
  case rest =>
    obtain ⟨x', rfl, hx', hS⟩ := hcut
    have SS : Aside (Tp wc B g o n c z ∧ w.grownBy wc (some g) ∧ Blk wc w.heap.size 26 #[.int .i64 0, .int .i64 0]) := hS
    clear hS
    go_wp2_with fail
    refine (tape_one 4 (by omega) (by omega) SS.out.1).mono ?_
    rintro e w5 ⟨v5, rfl, ht5, hg5⟩
    have S5 : Aside (Tp w5 B g o n c z ∧ w.grownBy w5 (some g) ∧ Blk w5 w.heap.size 26 #[.int .i64 0, .int .i64 0]) := ⟨ht5, gTr SS.out.2.1 hg5, SS.out.2.2.grown hg5 hne⟩
    clear hg5 ht5 SS
    go_upto_if 17 with (fail)
    go_cut [4] (fun s4 wx => InRat w B g o n c z s4 wx)
    case first =>
      cases v5
      · go_wp2_with fail
        go_meet
        exact ⟨y, rfl, ⟨by omega, by omega⟩, S5.out⟩
      · go_wp2_with fail
        refine (tape_pick w5.heap.size 8 8 denAt (by omega) (by omega) (S5.out.1.alloc _) ?_ (by simp) (by have := S5.out.1.lt; omega)).mono ?_
        · intro i hi
          have : i = 0 ∨ i = 1 ∨ i = 2 ∨ i = 3 ∨ i = 4 ∨ i = 5 ∨ i = 6 ∨ i = 7 := by omega
          rcases this with rfl | rfl | rfl | rfl | rfl | rfl | rfl | rfl <;> exact Blk.cell (Blk.newAt rfl) _
        rintro e w6 ⟨u, ⟨i, hi, rfl⟩, rfl, ht6, hg6⟩
        have S6 : Aside (Tp w6 B g o n c z ∧ w.grownBy w6 (some g) ∧ Blk w6 w.heap.size 26 #[.int .i64 0, .int .i64 0]) := ⟨ht6, gTr (gAl S5.out.2.1 _) hg6, (S5.out.2.2.alloc _).grown hg6 hne⟩
        clear ht6 hg6 S5
        go_wp2_with fail
        go_meet
        exact ⟨denAt i, rfl, denAt_bd i hi, S6.out⟩
    case rest =>
      obtain ⟨y', rfl, hy', hS⟩ := hcut
      obtain ⟨hxa, hxb⟩ := hx'
      obtain ⟨hya, hyb⟩ := hy'
      have SS : Aside (Tp wc B g o n c z ∧ w.grownBy wc (some g) ∧ Blk wc w.heap.size 26 #[.int .i64 0, .int .i64 0]) := hS
      clear hS
      go_wp2_with fail
      refine (r_new x' y' hxa hxb hya hyb _).mono ?_
      rintro e w7 ⟨rfl, hb7⟩
      have S7 : Aside (Tp w7 B g o n c z ∧ w.grownBy w7 (some g) ∧ Blk w7 w.heap.size 26 #[.int .i64 0, .int .i64 0]) := ⟨SS.out.1.later hb7, gTr SS.out.2.1 (gBe hb7), SS.out.2.2.later hb7⟩
      clear hb7 SS
      obtain ⟨⟨c0, c1⟩, ⟨f0, f1⟩, k⟩ := S7.out.2.2.two
      by_cases he : newErr x' y' = 0
      · have hV : Hid (ValidR (newNum x' y') (newDen x' y')) := valid_new x' y' he
        have he' : (newErr x' y' != 0) = false := by rw [he]; rfl
        clear he
        go_wp2
        refine bodyPost_ret (v := .agg #[.int .i64 (newNum x' y'), .int .i64 (newDen x' y')]) (by simp [results, Try.results41, go_sem, c0, c1, k]) rfl ⟨_, _, hV.out, rfl, ?_, ?_⟩
        · exact ((S7.out.1.setFar (by exact hgl) _).setFar (by exact hgl) _).alloc _
        · exact gAl (gNew (gNew S7.out.2.1 (Nat.le_refl _) _) (Nat.le_refl _) _) _
      · have he' : (newErr x' y' != 0) = true := by rw [bne_iff_ne]; exact he
        have hV : Hid (ValidR 1 1) := by show _ = _; decide
        go_wp2
        refine bodyPost_ret (v := .agg #[.int .i64 1, .int .i64 1]) (by simp [results, Try.results41, go_sem, c0, c1, k]) rfl ⟨_, _, hV.out, rfl, ?_, ?_⟩
        · exact ((S7.out.1.setFar (by exact hgl) _).setFar (by exact hgl) _).alloc _
        · exact gAl (gNew (gNew S7.out.2.1 (Nat.le_refl _) _) (Nat.le_refl _) _) _

def wildAt (i : Nat) : Int := [-1, 0, 1, 2, 31, 32, 99, 100, 200, 201, 9999, 10000, 1000000, 1000001, 1152921504606846976, 1152921504606846977, -1152921504606846976, 9223372036854775807, -9223372036854775808].getD i 0
theorem wildAt_bd (i : Nat) (h : i < 19) : I64 (wildAt i) := by
  have : i = 0 ∨ i = 1 ∨ i = 2 ∨ i = 3 ∨ i = 4 ∨ i = 5 ∨ i = 6 ∨ i = 7 ∨ i = 8 ∨ i = 9 ∨ i = 10 ∨ i = 11 ∨ i = 12 ∨ i = 13 ∨ i = 14 ∨ i = 15 ∨ i = 16 ∨ i = 17 ∨ i = 18 := by omega
  unfold I64
  rcases this with rfl | rfl | rfl | rfl | rfl | rfl | rfl | rfl | rfl | rfl | rfl | rfl | rfl | rfl | rfl | rfl | rfl | rfl | rfl <;> decide

set_option maxHeartbeats 1000000 in
theorem tape_wild {w : World} {B g : Nat} {o : Option Addr} {n c : Nat} {z : Nat → Int} (h : Tp w B g o n c z) :
    Calls Try.prog 71 #[.pointer (some ⟨g, 0, none⟩)] w (GetInt I64 w B g o n c z) := by
  have hgl := h.lt
  have H := Lib.hid h
  go_enter Try.func71, Try.ntmps71
  go_wp2_with fail
  refine (tape_pick w.heap.size 19 19 wildAt (by omega) (by omega) (h.alloc _) ?_ (by simp) (by omega)).mono ?_
  · intro i hi
    have : i = 0 ∨ i = 1 ∨ i = 2 ∨ i = 3 ∨ i = 4 ∨ i = 5 ∨ i = 6 ∨ i = 7 ∨ i = 8 ∨ i = 9 ∨ i = 10 ∨ i = 11 ∨ i = 12 ∨ i = 13 ∨ i = 14 ∨ i = 15 ∨ i = 16 ∨ i = 17 ∨ i = 18 := by omega
    rcases this with rfl | rfl | rfl | rfl | rfl | rfl | rfl | rfl | rfl | rfl | rfl | rfl | rfl | rfl | rfl | rfl | rfl | rfl | rfl <;> exact Blk.cell (Blk.newAt rfl) _
  rintro e w1 ⟨u, ⟨i, hi, rfl⟩, rfl, ht, hg⟩
  have hfin : GetInt I64 w B g o n c z (.returned (.int .i64 (wildAt i))) w1 := ⟨_, wildAt_bd i hi, rfl, ht, gTr (gBe (bAl (Below.refl _ w) _)) hg⟩
  have HF := Lib.hid hfin
  clear hfin ht hg h
  go_wp2
  go_ret
  exact HF.out

set_option maxHeartbeats 1000000 in
theorem tape_spoil (x : Int) (hx : I64 x) {w : World} {B g : Nat} {o : Option Addr} {n c : Nat} {z : Nat → Int} (h : Tp w B g o n c z) :
    Calls Try.prog 42 #[.pointer (some ⟨g, 0, none⟩), .int .i64 x, .int .i64 3] w (GetInt I64 w B g o n c z) := by
  go_enter Try.func42, Try.ntmps42
  go_wp2_with fail
  refine (tape_one 3 (by omega) (by omega) h).mono ?_
  rintro e w1 ⟨v, rfl, ht, hg⟩
  cases v
  · have hfin : GetInt I64 w B g o n c z (.returned (.int .i64 x)) w1 := ⟨_, hx, rfl, ht, hg⟩
    have HF := Lib.hid hfin
    clear hfin ht hg h
    go_wp2
    go_ret
    exact HF.out
  · have HG := Lib.hid hg
    clear h hg
    go_wp2_with fail
    refine (tape_wild ht).mono ?_
    rintro e w2 ⟨u, hu, rfl, ht2, hg2⟩
    have hfin : GetInt I64 w B g o n c z (.returned (.int .i64 u)) w2 := ⟨_, hu, rfl, ht2, gTr HG.out hg2⟩
    have HF := Lib.hid hfin
    clear hfin ht2 hg2 ht hu
    go_wp2
    go_ret
    exact HF.out

theorem valid_bd {a b : Int} (h : Frac.valid a b = true) : I64 a ∧ I64 b := by
  unfold Frac.valid at h
  simp only [Bool.and_eq_true, decide_eq_true_eq] at h
  unfold I64
  omega
def LooseR (a d : Int) : Prop := I64 a ∧ I64 d

set_option maxRecDepth 100000 in
set_option maxHeartbeats 2000000 in
theorem tape_loose {w : World} {B g : Nat} {o : Option Addr} {n c : Nat} {z : Nat → Int} (h : Tp w B g o n c z) :
    Calls Try.prog 12 #[.pointer (some ⟨g, 0, none⟩)] w (GetRat LooseR w B g o n c z) := by
  have hgl := h.lt
  have hne : some w.heap.size ≠ some g := by intro e; cases e; omega
  go_enter Try.func12, Try.ntmps12
  go_wp2_with fail
  refine (tape_ratio (h.alloc _)).mono ?_
  rintro e w1 ⟨a, d, hv, rfl, ht1, hg1⟩
  have S1 : Aside (Tp w1 B g o n c z ∧ w.grownBy w1 (some g) ∧ Blk w1 w.heap.size 26 #[.int .i64 0, .int .i64 0]) := ⟨ht1, gTr (gBe (bAl (Below.refl _ w) _)) hg1, (Blk.newAt rfl).grown hg1 hne⟩
  have HV : Hid (LooseR a d) := valid_bd hv
  clear ht1 hg1 hv h
  go_wp2_with fail
  refine (tape_one 3 (by omega) (by omega) (S1.out.1.alloc _)).mono ?_
  rintro e w2 ⟨v, rfl, ht2, hg2⟩
  have hne1 : some w1.heap.size ≠ some g := by intro e; cases e; have := S1.out.1.lt; omega
  have S2 : Aside (Tp w2 B g o n c z ∧ w.grownBy w2 (some g) ∧ Blk w2 w.heap.size 26 #[.int .i64 0, .int .i64 0] ∧ Blk w2 w1.heap.size 26 #[.int .i64 a, .int .i64 d]) := ⟨ht2, gTr (gAl S1.out.2.1 _) hg2, (S1.out.2.2.alloc _).grown hg2 hne, (Blk.newAt rfl).grown hg2 hne1⟩
  clear ht2 hg2 S1
  cases v
  · obtain ⟨⟨c0, c1⟩, ⟨f0, f1⟩, k⟩ := S2.out.2.2.1.two
    obtain ⟨⟨c10, c11⟩, ⟨f10, f11⟩, k1⟩ := S2.out.2.2.2.two
    go_wp2
    refine bodyPost_ret (v := .agg #[.int .i64 a, .int .i64 d]) (by simp [results, Try.results12, go_sem, c0, c1, k]) rfl ⟨_, _, HV.out, rfl, ?_, ?_⟩
    · exact (S2.out.1.setFar (by exact hgl) _).setFar (by exact hgl) _
    · exact gNew (gNew S2.out.2.1 (Nat.le_refl _) _) (Nat.le_refl _) _
  · go_wp2_with fail
    refine (tape_range (-8) 8 (by omega) (by omega) (by omega) S2.out.1).mono ?_
    rintro e w3 ⟨x, ⟨hx0, hx1⟩, rfl, ht3, hg3⟩
    have G3 := Lib.hid (gTr S2.out.2.1 hg3)
    have B3 := Lib.hid (S2.out.2.2.1.grown hg3 hne)
    clear hg3 S2
    go_wp2_with fail
    refine (tape_spoil x ⟨by omega, by omega⟩ ht3).mono ?_
    rintro e w4 ⟨x', hx', rfl, ht4, hg4⟩
    have G4 := Lib.hid (gTr G3.out hg4)
    have B4 := Lib.hid (B3.out.grown hg4 hne)
    clear hg4 ht3 G3 B3
    have HX := Lib.hid hx'
    clear hx'
    go_wp2_with fail
    refine (tape_range (-1) 8 (by omega) (by omega) (by omega) ht4).mono ?_
    rintro e w5 ⟨y, ⟨hy0, hy1⟩, rfl, ht5, hg5⟩
    have G5 := Lib.hid (gTr G4.out hg5)
    have B5 := Lib.hid (B4.out.grown hg5 hne)
    clear hg5 ht4 G4 B4
    go_wp2_with fail
    refine (tape_spoil y ⟨by omega, by omega⟩ ht5).mono ?_
    rintro e w6 ⟨y', hy', rfl, ht6, hg6⟩
    have G6 := Lib.hid (gTr G5.out hg6)
    have B6 := Lib.hid (B5.out.grown hg6 hne)
    have T6 := Lib.hid ht6
    clear hg6 ht5 G5 B5 ht6
    have HY := Lib.hid hy'
    clear hy'
    obtain ⟨⟨c0, c1⟩, ⟨f0, f1⟩, k⟩ := B6.out.two
    go_wp2
    refine bodyPost_ret (v := .agg #[.int .i64 x', .int .i64 y']) (by simp [results, Try.results12, go_sem, c0, c1, k]) rfl ⟨_, _, ⟨HX.out, HY.out⟩, rfl, ?_, ?_⟩
    · exact (T6.out.setFar (by exact hgl) _).setFar (by exact hgl) _
    · exact gNew (gNew G6.out (Nat.le_refl _) _) (Nat.le_refl _) _
end Go.Proofs.Ytlocgjhblcgpbaa
