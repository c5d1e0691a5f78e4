/-
  Contracts of the tape that the statements draw their values from.
-/
import Derived.Test.YtjdldkafghblmaaDoorNums
import Derived.LoopN
namespace Go.Proofs.YtjdldkafghblmaaDoor
open Go.RowKit
set_option linter.unusedSimpArgs false
set_option linter.unusedVariables false

/-- the numbers of a slice that came in: each lies below block B -/
def RowB (w : World) (B : Nat) (o : Option Addr) (n : Nat) (z : Nat → Int) : Prop :=
  ∀ i, i < n → (∃ b off, o = some ⟨b, off, none⟩ ∧ b < B ∧ w.cell? ⟨b, off + i, none⟩ = some (.int .i64 (z i))) ∧ -9223372036854775808 ≤ z i ∧ z i < 9223372036854775808
theorem RowB.keep {w w' : World} {B n : Nat} {o : Option Addr} {z : Nat → Int} (h : RowB w B o n z) (hk : ∀ k, k < B → w'.heap[k]? = w.heap[k]?) : RowB w' B o n z := by
  intro i hi
  obtain ⟨⟨b, off, ho, hb, hc⟩, hz⟩ := h i hi
  exact ⟨⟨b, off, ho, hb, (World.cell?_of_block (a := ⟨b, off + i, none⟩) (hk b hb)).trans hc⟩, hz⟩
/-- a tape in block g that reads the row -/
structure Tp (w : World) (B g : Nat) (o : Option Addr) (n c : Nat) (z : Nat → Int) : Prop where
  row : RowB w B o n z
  bg : B ≤ g
  few : n ≤ 600
  blk : ∃ k : Nat, k ≤ n ∧ Blk w g 39 #[.slice o n c, .int .i64 k]
theorem Tp.lt {w : World} {B g : Nat} {o : Option Addr} {n c : Nat} {z : Nat → Int} (h : Tp w B g o n c z) : g < w.heap.size := by
  obtain ⟨k, _, hb⟩ := h.blk
  exact hb.lt
theorem Tp.later {w w' : World} {B g : Nat} {o : Option Addr} {n c : Nat} {z : Nat → Int} (h : Tp w B g o n c z) (hb : Below w.heap.size w w') : Tp w' B g o n c z := by
  obtain ⟨k, hk, hB⟩ := h.blk
  exact ⟨h.row.keep fun j hj => hb.block j (by have := hB.lt; have := h.bg; omega), h.bg, h.few, k, hk, hB.later hb⟩
theorem Tp.alloc {w : World} {B g : Nat} {o : Option Addr} {n c : Nat} {z : Nat → Int} (h : Tp w B g o n c z) (x : Obj) : Tp (w.alloc x) B g o n c z := h.later ((Below.refl _ _).alloc (Nat.le_refl _) x)

theorem gDr (w : World) (m : Nat) (row : Option Nat) : w.grownBy (w.drewN m) row := ⟨rfl, rfl, rfl, Nat.le_refl _, fun _ _ _ => rfl⟩
theorem gTr {a b c : World} {row : Option Nat} (h : a.grownBy b row) (k : b.grownBy c row) : a.grownBy c row :=
  ⟨k.os.trans h.os, k.tape.trans h.tape, k.output.trans h.output, Nat.le_trans h.size k.size, fun j hj hn => (k.block j (Nat.lt_of_lt_of_le hj h.size) hn).trans (h.block j hj hn)⟩
theorem gSet {a b : World} {g : Nat} (h : a.grownBy b (some g)) (b0 : Nat) (o : Nat) (v : Value) (hb : b0 = g := by rfl) : a.grownBy (b.setCell ⟨b0, o, none⟩ v) (some g) := by
  subst hb
  exact ⟨h.os, h.tape, h.output, by simpa using h.size, fun j hj hn => (Below.heap_setCell b ⟨b0, o, none⟩ v j (fun e => hn (by simp [e]))).trans (h.block j hj hn)⟩
theorem gBe {a b : World} {row : Option Nat} (h : Below a.heap.size a b) : a.grownBy b row := ⟨h.os, h.tape, h.output, h.size, fun j hj _ => h.block j hj⟩
theorem bGr {a b : World} {B g : Nat} (h : a.grownBy b (some g)) (hB : B ≤ g) (hs : B ≤ a.heap.size) : Below B a b := ⟨h.os, h.tape, h.output, h.size, fun j hj => h.block j (by omega) (by intro e; cases e; omega)⟩
/-- what a read of the tape leaves: a number of which P holds, the tape moved on, nothing else turned -/
def GetInt (P : Int → Prop) (w : World) (B g : Nat) (o : Option Addr) (n c : Nat) (z : Nat → Int) (e : Ending) (w' : World) : Prop :=
  ∃ v, P v ∧ e = .returned (.int .i64 v) ∧ Tp w' B g o n c z ∧ w.grownBy w' (some g)
def I64 (v : Int) : Prop := -9223372036854775808 ≤ v ∧ v < 9223372036854775808

set_option maxHeartbeats 1000000 in
theorem tape_raw {w : World} {B g : Nat} {o : Option Addr} {n c : Nat} {z : Nat → Int} (h : Tp w B g o n c z) :
    Calls Tryd.prog 65 #[.pointer (some ⟨g, 0, none⟩)] w (GetInt I64 w B g o n c z) := by
  obtain ⟨k, hk, hB⟩ := h.blk
  have hfew := h.few
  have HH := Lib.hid h
  clear h
  have PB := Lib.hid hB
  obtain ⟨⟨c0, c1⟩, ⟨f0, f1⟩, hlt⟩ := hB.two
  clear hB
  by_cases hkn : k < n
  · obtain ⟨⟨b, off, rfl, hb, hc⟩, hz⟩ := HH.out.row k hkn
    have hkn' : ¬ (n : Int) ≤ (k : Int) := by omega
    have hi1 : (k : Int) < (n : Int) := by omega
    have hi0 : (0 : Int) ≤ (k : Int) := by omega
    have hbg : b ≠ g := by have := HH.out.bg; omega
    go_enter Tryd.func65, Tryd.ntmps65
    go_wp2
    go_quiet (fail)
    go_wp2
    have PW : Aside (Blk ((w.drewN nq).setCell ⟨g, 1, none⟩ (.int .i64 ((k : Int) + 1))) g 39 #[.slice (some ⟨b, off, none⟩) n c, .int .i64 ((k : Int) + 1)] ∧ World.grownBy w ((w.drewN nq).setCell ⟨g, 1, none⟩ (.int .i64 ((k : Int) + 1))) (some g) ∧ ((w.drewN nq).setCell ⟨g, 1, none⟩ (.int .i64 ((k : Int) + 1))).cell? ⟨b, off + k, none⟩ = some (.int .i64 (z k))) :=
      ⟨(PB.out.drewN nq).set1 _, gSet (gDr w nq (some g)) g 1 _, by rw [World.cell?_setCell_other _ _ _ _ (by intro e; exact hbg (congrArg Addr.block e).symm)]; exact hc⟩
    generalize (w.drewN nq).setCell ⟨g, 1, none⟩ (.int .i64 ((k : Int) + 1)) = w1 at PW ⊢
    obtain ⟨⟨d0, d1⟩, ⟨e0, e1⟩, hlt1⟩ := PW.out.1.two
    have hc1 := PW.out.2.2
    clear c0 c1 f0 f1
    have hfin : ∀ m, GetInt I64 w B g (some ⟨b, off, none⟩) n c z (.returned (.int .i64 (z k))) (w1.drewN m) := fun m =>
      ⟨z k, hz, rfl, ⟨(HH.out.row.keep fun j hj => (PW.out.2.1.block j (by have := HH.out.bg; omega) (by intro e; cases e; have := HH.out.bg; omega))), HH.out.bg, HH.out.few, k + 1, by omega, PW.out.1⟩, gTr PW.out.2.1 (gDr w1 m (some g))⟩
    have HFIN := Lib.hid hfin
    clear hfin
    go_quiet (fail)
    go_wp2
    go_ret
    exact HFIN.out _
  · have hkn' : (n : Int) ≤ (k : Int) := by omega
    go_enter Tryd.func65, Tryd.ntmps65
    go_wp2
    go_quiet (fail)
    go_wp2
    go_ret
    exact ⟨0, ⟨by omega, by omega⟩, rfl, ⟨HH.out.row, HH.out.bg, HH.out.few, k, hk, PB.out⟩, gDr w _ _⟩

theorem cut_range (x n : Int) (h : 1 ≤ n) : 0 ≤ x % n ∧ x % n < n := ⟨Int.emod_nonneg _ (by omega), Int.emod_lt_of_pos _ (by omega)⟩
theorem tmod_facts (x n : Int) (h : 1 ≤ n) : -n < x.tmod n ∧ x.tmod n < n ∧ x % n = if x.tmod n < 0 then x.tmod n + n else x.tmod n := by
  have h1 := Int.mul_tdiv_add_tmod x n
  have h2 : x % n = x.tmod n % n := by
    have : x % n = (x.tmod n + n * x.tdiv n) % n := by rw [Int.add_comm, h1]
    rw [this, Int.add_mul_emod_self_left]
  have h3 : x.tmod n < n := Int.tmod_lt_of_pos x (by omega)
  have h4 : -n < x.tmod n := by
    have := Int.tmod_lt_of_pos (-x) (show 0 < n by omega)
    rw [Int.neg_tmod] at this
    omega
  refine ⟨h4, h3, ?_⟩
  rw [h2]
  split
  · have e : x.tmod n % n = (x.tmod n + n) % n := (Int.add_emod_right _ _).symm
    rw [e]
    exact Int.emod_eq_of_lt (by omega) (by omega)
  · exact Int.emod_eq_of_lt (by omega) h3
/-- Cut at a number that is at least 1 -/
theorem cut_any (x n : Int) (h : 1 ≤ n) (hn : n < 9223372036854775808) (hx : I64 x) (w : World) :
    Calls Tryd.prog 12 #[.int .i64 x, .int .i64 n] w fun e w' => e = .returned (.int .i64 (x % n)) ∧ w = w' := by
  obtain ⟨x0, x1⟩ := hx
  have t1 : ¬ n < 1 := by omega
  obtain ⟨r0, r1, hr⟩ := tmod_facts x n h
  have hnz : (n == 0) = false := by rw [beq_eq_false_iff_ne]; omega
  obtain ⟨r, hrr⟩ : ∃ r, x.tmod n = r := ⟨_, rfl⟩
  rw [hrr] at r0 r1 hr
  by_cases hneg : r < 0
  · have HF : Hid (r + n = x % n) := by show _ = _; rw [hr, if_pos hneg]
    clear hr
    go_enter Tryd.func12, Tryd.ntmps12
    go_wp2
    go_ret
    exact ⟨ret_int HF.out, rfl⟩
  · have HF : Hid (r = x % n) := by show _ = _; rw [hr, if_neg hneg]
    clear hr
    go_enter Tryd.func12, Tryd.ntmps12
    go_wp2
    go_ret
    exact ⟨ret_int HF.out, rfl⟩

set_option maxHeartbeats 1000000 in
theorem tape_next (N : Int) (hN : 1 ≤ N) (hN1 : N < 9223372036854775808) {w : World} {B g : Nat} {o : Option Addr} {n c : Nat} {z : Nat → Int} (h : Tp w B g o n c z) :
    Calls Tryd.prog 45 #[.pointer (some ⟨g, 0, none⟩), .int .i64 N] w (GetInt (fun v => 0 ≤ v ∧ v < N) w B g o n c z) := by
  go_enter Tryd.func45, Tryd.ntmps45
  go_wp2_with fail
  refine (tape_raw h).mono ?_
  rintro e w1 ⟨v, hv, rfl, ht, hg⟩
  go_wp2_with fail
  refine (cut_any _ _ hN hN1 hv _).mono ?_
  rintro e w2 ⟨rfl, rfl⟩
  have hfin : GetInt (fun v => 0 ≤ v ∧ v < N) w B g o n c z (.returned (.int .i64 (v % N))) w1 := ⟨_, cut_range v N hN, rfl, ht, hg⟩
  have HF := Lib.hid hfin
  clear hfin ht hg h hv
  go_wp2
  go_ret
  exact HF.out

set_option maxHeartbeats 1000000 in
theorem tape_range (lo hi : Int) (hlo : -1000000000000 ≤ lo) (hhi : hi ≤ 1000000000000) (hle : lo ≤ hi) {w : World} {B g : Nat} {o : Option Addr} {n c : Nat} {z : Nat → Int} (h : Tp w B g o n c z) :
    Calls Tryd.prog 18 #[.pointer (some ⟨g, 0, none⟩), .int .i64 lo, .int .i64 hi] w (GetInt (fun v => lo ≤ v ∧ v ≤ hi) w B g o n c z) := by
  have hlo1 : lo ≤ 1000000000000 := by omega
  have hhi0 : -1000000000000 ≤ hi := by omega
  go_enter Tryd.func18, Tryd.ntmps18
  go_wp2_with fail
  refine (tape_next (hi - lo + 1) (by omega) (by omega) h).mono ?_
  rintro e w1 ⟨v, ⟨hv0, hv1⟩, rfl, ht, hg⟩
  have hfin : GetInt (fun v => lo ≤ v ∧ v ≤ hi) w B g o n c z (.returned (.int .i64 (lo + v))) w1 := ⟨_, ⟨by omega, by omega⟩, rfl, ht, hg⟩
  have HF := Lib.hid hfin
  clear hfin ht hg h
  go_wp2
  go_ret
  exact HF.out

/-- what New leaves: a pointer to a tape of its own -/
def NewTape (w : World) (B : Nat) (o : Option Addr) (c : Nat) (z : Nat → Int) (e : Ending) (w' : World) : Prop :=
  ∃ g n, e = .returned (.pointer (some ⟨g, 0, none⟩)) ∧ Tp w' B g o n c z ∧ Below w.heap.size w w' ∧ w.heap.size ≤ g

set_option maxHeartbeats 1000000 in
theorem tape_new {w : World} {o : Option Addr} {n c : Nat} {z : Nat → Int} (h : RowB w w.heap.size o n z) (hc : n ≤ c) (hc1 : c ≤ 9223372036854775807) (ho : o = none → n = 0 ∧ c = 0) :
    Calls Tryd.prog 5 #[.slice o n c] w (NewTape w w.heap.size o c z) := by
  by_cases hn : 600 < n
  · have HF := Lib.hid (show NewTape w w.heap.size o c z (.returned (.pointer (some ⟨w.heap.size, 0, none⟩))) (w.alloc (.cells #[.slice o 600 c, .int .i64 0] 39)) from
      ⟨w.heap.size, 600, rfl, ⟨(show RowB w w.heap.size o 600 z from fun i hi => h i (by omega)).keep fun k hk => Below.heap_alloc _ _ _ hk, Nat.le_refl _, Nat.le_refl _, 0, by omega, Blk.newAt rfl⟩, bAl (Below.refl _ _) _, Nat.le_refl _⟩)
    clear h
    go_enter Tryd.func5, Tryd.ntmps5
    go_wp2
    go_ret
    exact HF.out
  · have HF := Lib.hid (show NewTape w w.heap.size o c z (.returned (.pointer (some ⟨w.heap.size, 0, none⟩))) (w.alloc (.cells #[.slice o n c, .int .i64 0] 39)) from
      ⟨w.heap.size, n, rfl, ⟨h.keep fun k hk => Below.heap_alloc _ _ _ hk, Nat.le_refl _, by omega, 0, by omega, Blk.newAt rfl⟩, bAl (Below.refl _ _) _, Nat.le_refl _⟩)
    clear h
    go_enter Tryd.func5, Tryd.ntmps5
    go_wp2
    go_ret
    exact HF.out
end Go.Proofs.YtjdldkafghblmaaDoor
