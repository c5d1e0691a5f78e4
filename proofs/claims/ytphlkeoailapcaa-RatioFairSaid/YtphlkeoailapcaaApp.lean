/-
  The program's Apportion at one to eight weights: the parts by the largest remainders.
-/
import Derived.Test.YtphlkeoailapcaaFairSort
import Derived.Test.YtphlkeoailapcaaFairMath
import Derived.Test.YtphlkeoailapcaaAwaken
import Derived.LoopN
import Derived.IntWalk
import Derived.OwnWalk
import Derived.Deep.OwnRows
import Derived.RegionTactic
import Derived.BigRegion
namespace Go.Proofs.Ytphlkeoailapcaa
open Go.RowKit
set_option linter.unusedSimpArgs false
set_option linter.unusedVariables false

def rowN (n : Nat) (f : Nat → Int) : Array Value := ((List.range n).map fun i => Value.int .i64 (f i)).toArray
theorem rowN_size {n : Nat} {f : Nat → Int} : (rowN n f).size = n := by simp [rowN]
theorem rowN_get {n : Nat} {f : Nat → Int} {i : Nat} (h : i < n) : (rowN n f)[i]? = some (.int .i64 (f i)) := by
  simp [rowN, h]
theorem rowN_set {n : Nat} {f : Nat → Int} {k : Nat} (v : Int) : (rowN n f).setIfInBounds k (.int .i64 v) = rowN n (fun i => if i = k then v else f i) := by
  apply Array.ext
  · simp [rowN]
  · intro i h1 h2
    simp [rowN, Array.getElem_setIfInBounds]
    by_cases h : k = i
    · subst h; simp
    · simp [h, Ne.symm h]
theorem rowN_made {n : Nat} : madeCells #[Value.int .i64 0] n = rowN n (fun _ => 0) := by
  apply Array.ext
  · simp [rowN, madeCells]
  · intro i h1 h2
    simp [rowN, madeCells, Nat.mod_one]
theorem rowN_congr {n : Nat} {f g : Nat → Int} (h : ∀ i, i < n → f i = g i) : rowN n f = rowN n g := by
  unfold rowN
  congr 1
  apply List.map_congr_left
  intro i hi
  rw [h i (List.mem_range.1 hi)]

def QT (T S : Int) (W : Nat → Int) (i : Nat) : Int := (T * W i).tdiv S
def RT (T S : Int) (W : Nat → Int) (i : Nat) : Int := (T * W i).tmod S
theorem lsum_snoc (f : Nat → Int) (k : Nat) : lsum f (List.range (k + 1)) = lsum f (List.range k) + f k := by
  rw [List.range_succ, lsum_app]
  show _ + (f k + 0) = _
  omega

/-- the three rows that apportioned fills, and the box of the rests -/
structure AS (w : World) (p1 p2 p3 n : Nat) (T S : Int) (W : Nat → Int) (k : Nat) (wr : World) : Prop where
  p : Blk wr w.heap.size 3 (rowN n fun i => if i < k then QT T S W i else 0)
  r : Blk wr p1 3 (rowN n fun i => if i < k then RT T S W i else 0)
  v : Blk wr p2 22 #[.slice (some ⟨p1, 0, none⟩) n n]
  o : Blk wr p3 3 (rowN n fun i => if i < k then (i : Int) else 0)
  be : Below w.heap.size w wr
  e1 : p1 = w.heap.size + 1
  e2 : p2 = w.heap.size + 2
  e3 : p3 = w.heap.size + 3
theorem step_row {k : Nat} {f : Nat → Int} : (fun i => if i = k then f k else if i < k then f i else 0) = fun i => if i < k + 1 then f i else (0 : Int) := by
  funext i
  by_cases h : i = k
  · subst h; simp
  · by_cases h2 : i < k
    · rw [if_neg h, if_pos h2, if_pos (by omega)]
    · rw [if_neg h, if_neg h2, if_neg (by omega)]
theorem AS.drewN {w : World} {p1 p2 p3 n k : Nat} {T S : Int} {W : Nat → Int} {wr : World} (h : AS w p1 p2 p3 n T S W k wr) (m : Nat) : AS w p1 p2 p3 n T S W k (wr.drewN m) :=
  ⟨h.p, h.r, h.v, h.o, bDr h.be m, h.e1, h.e2, h.e3⟩
theorem AS.step {w : World} {p1 p2 p3 n k : Nat} {T S : Int} {W : Nat → Int} {wr : World} (h : AS w p1 p2 p3 n T S W k wr) :
    AS w p1 p2 p3 n T S W (k + 1) (((wr.setCell ⟨w.heap.size, k, none⟩ (.int .i64 (QT T S W k))).setCell ⟨p1, k, none⟩ (.int .i64 (RT T S W k))).setCell ⟨p3, k, none⟩ (.int .i64 (k : Int))) := by
  have e1 := h.e1
  have e2 := h.e2
  have e3 := h.e3
  refine ⟨?_, ?_, ((h.v.off (by omega) _).off (by omega) _).off (by omega) _, ?_, bSt (bSt (bSt h.be (by show w.heap.size ≤ w.heap.size; omega) _) (by show w.heap.size ≤ p1; omega) _) (by show w.heap.size ≤ p3; omega) _, e1, e2, e3⟩
  · have h1 := h.p.set_ k (.int .i64 (QT T S W k))
    rw [rowN_set, step_row (f := QT T S W)] at h1
    exact (h1.off (by omega) _).off (by omega) _
  · have h1 := (h.r.off (b := w.heap.size) (o := k) (by omega) (.int .i64 (QT T S W k))).set_ k (.int .i64 (RT T S W k))
    rw [rowN_set, step_row (f := RT T S W)] at h1
    exact h1.off (by omega) _
  · have h1 := ((h.o.off (b := w.heap.size) (o := k) (by omega) (.int .i64 (QT T S W k))).off (b := p1) (o := k) (by omega) (.int .i64 (RT T S W k))).set_ k (.int .i64 (k : Int))
    rw [rowN_set, step_row (f := fun i => (i : Int))] at h1
    exact h1
theorem AS.start (w : World) {p1 p2 p3 n : Nat} {T S : Int} {W : Nat → Int} (e1 : w.heap.size + 1 = p1) (e2 : w.heap.size + 1 + 1 = p2) (e3 : w.heap.size + 1 + 1 + 1 = p3) :
    AS w p1 p2 p3 n T S W 0 ((((w.alloc (.cells (madeCells #[.int .i64 0] n) 3)).alloc (.cells (madeCells #[.int .i64 0] n) 3)).alloc (.cells #[.slice (some ⟨p1, 0, none⟩) n n] 22)).alloc (.cells (madeCells #[.int .i64 0] n) 3)) := by
  have hz : ∀ f : Nat → Int, rowN n (fun i => if i < 0 then f i else 0) = rowN n (fun _ => 0) := fun f => rowN_congr fun i _ => if_neg (by omega)
  refine ⟨?_, ?_, ?_, ?_, bAl (bAl (bAl (bAl (Below.refl _ _) _) _) _) _, by omega, by omega, by omega⟩
  · rw [hz, ← rowN_made]; exact (((Blk.new _ _ _).alloc _).alloc _).alloc _
  · rw [hz, ← rowN_made]; exact ((Blk.newAt (by simp; omega)).alloc _).alloc _
  · exact (Blk.newAt (by simp; omega)).alloc _
  · rw [hz, ← rowN_made]; exact Blk.newAt (by simp; omega)

theorem AS.drew {w : World} {p1 p2 p3 n k : Nat} {T S : Int} {W : Nat → Int} {wr : World} (h : AS w p1 p2 p3 n T S W k wr) : AS w p1 p2 p3 n T S W k wr.drew :=
  ⟨h.p, h.r, h.v, h.o, bD1 h.be, h.e1, h.e2, h.e3⟩
theorem lsum_nk {f : Nat → Int} {c : Int} {n : Nat} (h : ∀ i, i < n → 0 ≤ f i ∧ f i ≤ c) : ∀ k, k ≤ n → 0 ≤ lsum f (List.range k) ∧ lsum f (List.range k) ≤ c * k := by
  intro k hk
  have h1 : ∀ i ∈ List.range k, 0 ≤ f i := fun i hi => (h i (by have := List.mem_range.1 hi; omega)).1
  have h2 : ∀ i ∈ List.range k, f i ≤ c := fun i hi => (h i (by have := List.mem_range.1 hi; omega)).2
  refine ⟨lsum_nn h1, ?_⟩
  have := lsum_bd h2
  rwa [List.length_range] at this
theorem qt_bd {T S : Int} {W : Nat → Int} {n : Nat} (hW : ∀ i, i < n → 0 ≤ W i ∧ W i ≤ 60) (hT : 0 ≤ T ∧ T ≤ 499) (hS : 0 < S ∧ S ≤ 480) (i : Nat) (hi : i < n) : 0 ≤ QT T S W i ∧ QT T S W i ≤ 29940 := by
  obtain ⟨x0, x1⟩ := hW i hi
  have hp0 : 0 ≤ T * W i := Int.mul_nonneg hT.1 x0
  have hp1 : T * W i ≤ 29940 := Int.le_trans (Int.mul_le_mul_of_nonneg_left x1 hT.1) (by omega)
  unfold QT
  refine ⟨Int.tdiv_nonneg hp0 (by omega), ?_⟩
  rw [Int.tdiv_eq_ediv_of_nonneg hp0]
  exact Int.le_trans (Int.ediv_le_self _ hp0) hp1
theorem qr_any {n : Nat} {T S : Int} {W : Nat → Int} (hW : ∀ i, i < n → 0 ≤ W i ∧ W i ≤ 60) (hT : 0 ≤ T) (hS : 0 < S) : ∀ i, i < n → T * W i = S * QT T S W i + RT T S W i ∧ 0 ≤ RT T S W i ∧ RT T S W i < S := by
  intro i hi
  have hp0 : 0 ≤ T * W i := Int.mul_nonneg hT (hW i hi).1
  unfold QT RT
  exact ⟨(Int.mul_tdiv_add_tmod _ _).symm, Int.tmod_nonneg _ hp0, Int.tmod_lt_of_pos _ hS⟩
theorem left_any {n : Nat} {T S : Int} {W Q R : Nat → Int} (hS : 0 < S) (hsum : lsum W (List.range n) = S) (h : ∀ i, i < n → T * W i = S * Q i + R i ∧ 0 ≤ R i ∧ R i < S) : ∃ L : Nat, T = lsum Q (List.range n) + L := by
  have e1 : lsum (fun i => T * W i) (List.range n) = lsum (fun i => S * Q i + R i) (List.range n) := lsum_congr fun i hi => (h i (List.mem_range.1 hi)).1
  have e2 : 0 ≤ lsum R (List.range n) := lsum_nn fun i hi => (h i (List.mem_range.1 hi)).2.1
  rw [lsum_mul, lsum_add, lsum_mul, hsum] at e1
  have e3 : S * lsum Q (List.range n) ≤ S * T := by rw [Int.mul_comm S T]; omega
  have e4 := Int.le_of_mul_le_mul_left e3 hS
  exact ⟨(T - lsum Q (List.range n)).toNat, by omega⟩
theorem part_step {Q : Nat → Int} {ord : List Nat} {j a : Nat} (hd : ord.Nodup) (hj : j < ord.length) (ha : ord[j] = a) : (fun i => if i = a then part Q j ord a + 1 else part Q j ord i) = part Q (j + 1) ord := by
  have hn : a ∉ ord.take j := by
    intro hm
    obtain ⟨m, hm1, hm2⟩ := List.mem_iff_getElem.1 hm
    rw [List.length_take] at hm1
    rw [List.getElem_take] at hm2
    have := (List.getElem_inj hd).1 (hm2.trans ha.symm)
    omega
  have hmem : ∀ i, i ∈ ord.take (j + 1) ↔ i ∈ ord.take j ∨ i = a := by
    intro i
    rw [← List.take_append_getElem hj, List.mem_append, List.mem_singleton, ha]
  funext i
  unfold part
  by_cases h : i = a
  · subst h
    rw [if_pos rfl, if_neg hn, if_pos ((hmem i).2 (.inr rfl))]
    omega
  · rw [if_neg h]
    by_cases h2 : i ∈ ord.take j
    · rw [if_pos h2, if_pos ((hmem i).2 (.inl h2))]
    · rw [if_neg h2, if_neg (fun hm => by rcases (hmem i).1 hm with h3 | h3 <;> contradiction)]
theorem part_zero {Q : Nat → Int} {ord : List Nat} : part Q 0 ord = Q := by
  funext i
  unfold part
  simp
/-- while what is left is given out -/
structure BS (w : World) (p3 n : Nat) (Q : Nat → Int) (ord : List Nat) (j : Nat) (wr : World) : Prop where
  p : Blk wr w.heap.size 3 (rowN n (part Q j ord))
  o : ∀ i, (hi : i < ord.length) → wr.cell? ⟨p3, i, none⟩ = some (.int .i64 ord[i])
  be : Below w.heap.size w wr
theorem BS.start {w wr w2 : World} {p1 p2 p3 n : Nat} {T S : Int} {W : Nat → Int} (h : AS w p1 p2 p3 n T S W n wr) {ord : List Nat} (h1 : ∀ i, (hi : i < ord.length) → w2.cell? ⟨p3, i, none⟩ = some (.int .i64 ord[i]) ∧ w2.frozen? ⟨p3, i, none⟩ = false)
    (h2 : w2.heap.size = wr.heap.size) (h3 : ∀ k, k ≠ p3 → w2.heap[k]? = wr.heap[k]?) (h4 : w2.tape = wr.tape) (h5 : w2.output = wr.output) (h6 : w2.os = wr.os) : BS w p3 n (QT T S W) ord 0 w2 := by
  have e3 := h.e3
  refine ⟨?_, fun i hi => (h1 i hi).1, ⟨h6.trans h.be.os, h4.trans h.be.tape, h5.trans h.be.output, by rw [h2]; exact h.be.size, fun k hk => (h3 k (by omega)).trans (h.be.block k hk)⟩⟩
  rw [part_zero, rowN_congr (g := fun i => if i < n then QT T S W i else 0) fun i hi => (if_pos hi).symm]
  exact (h3 _ (by omega)).trans h.p
theorem BS.step {w wr : World} {p3 n j a : Nat} {Q : Nat → Int} {ord : List Nat} (h : BS w p3 n Q ord j wr) (e3 : p3 ≠ w.heap.size) (hd : ord.Nodup) (hj : j < ord.length) (ha : ord[j] = a) : BS w p3 n Q ord (j + 1) (wr.setCell ⟨w.heap.size, a, none⟩ (.int .i64 (part Q j ord a + 1))) := by
  refine ⟨?_, fun i hi => ?_, bSt h.be (Nat.le_refl _) _⟩
  · have h1 := h.p.set_ a (.int .i64 (part Q j ord a + 1))
    rw [rowN_set, part_step hd hj ha] at h1
    exact h1
  · rw [World.cell?_setCell_other _ _ _ _ (by intro e; exact e3 (congrArg Addr.block e).symm)]
    exact h.o i hi
theorem intX_info : (Try.prog.info? 3).map (fun i => (i.zero, i.size, i.bytes)) = some (some (.int .i64 0), 1, 8) := by kernel_rfl
/-- what apportioned leaves -/
def AppR (w : World) (n : Nat) (T S : Int) (W : Nat → Int) (e : Ending) (w' : World) : Prop :=
  e = .returned (.slice (some ⟨w.heap.size, 0, none⟩) n n) ∧ Below w.heap.size w w' ∧ ∃ L ord, Fair n T S W (QT T S W) (RT T S W) L ord ∧ Blk w' w.heap.size 3 (rowN n (part (QT T S W) L ord))

set_option maxRecDepth 100000 in
set_option maxHeartbeats 4000000 in
theorem apportioned_any (b n cap : Nat) (T S : Int) (W : Nat → Int) (w : World) (hb : b < w.heap.size) (hn : 0 < n) (hn8 : n ≤ 8) (hc : ∀ i, i < n → w.cell? ⟨b, i, none⟩ = some (.int .i64 (W i)))
    (hW : ∀ i, i < n → 0 ≤ W i ∧ W i ≤ 60) (hT : 0 ≤ T ∧ T ≤ 499) (hS : 0 < S ∧ S ≤ 480) (hsum : lsum W (List.range n) = S) :
    Calls Try.prog 62 #[.int .i64 T, .int .i64 S, .slice (some ⟨b, 0, none⟩) n cap] w (AppR w n T S W) := by
  obtain ⟨i0, hi0, hz0, hz1, hz2⟩ := info_parts intX_info
  have HC := Lib.hid hc
  have HW := Lib.hid hW
  clear hc hW
  go_enter Try.func62, Try.ntmps62
  go_wp2_with ((at_make; refine wpList_make_row _ rfl _ _ 22 rfl 3 i0 (.int .i64 0) Try.underlying22 hi0 hz0 hz1 rfl _ _ n rfl rfl (by rw [hz2]; omega) (by omega) ?_))
  have H0 := Lib.hid (fun p1 p2 p3 e1 e2 e3 => AS.start (T := T) (S := S) (W := W) (n := n) w (p1 := p1) (p2 := p2) (p3 := p3) e1 e2 e3)
  generalize hp3 : w.heap.size + 1 + 1 + 1 = p3
  generalize hp2 : w.heap.size + 1 + 1 = p2
  generalize hp1 : w.heap.size + 1 = p1
  have H1 := Lib.hid (H0.out p1 p2 p3 hp1 hp2 hp3)
  have P1 := Lib.hid hp1
  have P2 := Lib.hid hp2
  have P3 := Lib.hid hp3
  clear H0 hp1 hp2 hp3
  go_loopw [10, 27] (fun l i wr => ∃ k : Nat, k ≤ n ∧ i = .int .i64 k ∧ l = .int .i64 (T - lsum (QT T S W) (List.range k)) ∧ AS w p1 p2 p3 n T S W k wr) (fun _ i _ => n - (intOf i).toNat)
  case atStart => exact ⟨0, by omega, rfl, by simp [lsum], H1.out⟩
  case round =>
    clear H1
    obtain ⟨k, hk, rfl, rfl, hA⟩ := hrel
    have HA := Lib.hid hA
    clear hA
    by_cases hlt : k < n
    · have hlt' : (k : Int) < (n : Int) := by omega
      have hk0 : (0 : Int) ≤ (k : Int) := by omega
      obtain ⟨e1, e2, e3⟩ : p1 ≠ w.heap.size ∧ p2 ≠ w.heap.size ∧ p3 ≠ w.heap.size := ⟨by have := P1.out; omega, by have := P2.out; omega, by have := P3.out; omega⟩
      obtain ⟨e4, e5, e6⟩ : p2 ≠ p1 ∧ p3 ≠ p1 ∧ p3 ≠ p2 := ⟨by have := P1.out; have := P2.out; omega, by have := P1.out; have := P3.out; omega, by have := P2.out; have := P3.out; omega⟩
      have cb : wr.cell? ⟨b, k, none⟩ = some (.int .i64 (W k)) := by rw [HA.out.be.cell (p := ⟨b, k, none⟩) hb]; exact HC.out k hlt
      have c0 : wr.cell? ⟨w.heap.size, k, none⟩ = some (.int .i64 0) := by rw [HA.out.p.cell, rowN_get hlt, if_neg (by omega)]
      have c1 : wr.cell? ⟨p1, k, none⟩ = some (.int .i64 0) := by rw [HA.out.r.cell, rowN_get hlt, if_neg (by omega)]
      have c2 : wr.cell? ⟨p2, 0, none⟩ = some (.slice (some ⟨p1, 0, none⟩) n n) := by rw [HA.out.v.cell]; rfl
      have c3 : wr.cell? ⟨p3, k, none⟩ = some (.int .i64 0) := by rw [HA.out.o.cell, rowN_get hlt, if_neg (by omega)]
      have f0 := HA.out.p.frozen k
      have f1 := HA.out.r.frozen k
      have f3 := HA.out.o.frozen k
      obtain ⟨x, hx⟩ : ∃ x, W k = x := ⟨_, rfl⟩
      rw [hx] at cb
      obtain ⟨x0, x1⟩ : 0 ≤ x ∧ x ≤ 60 := by rw [← hx]; exact HW.out k hlt
      have hp0 : 0 ≤ T * x := Int.mul_nonneg hT.1 x0
      have hp1 : T * x ≤ 29940 := Int.le_trans (Int.mul_le_mul_of_nonneg_left x1 hT.1) (by omega)
      obtain ⟨y, hy⟩ : ∃ y, T * x = y := ⟨_, rfl⟩
      rw [hy] at hp0 hp1
      have hwr : IntKind.i64.wrap (T * x) = y := by rw [hy, IntKind.wrap_i64]; omega
      have hqb := qt_bd HW.out hT hS k hlt
      have hQ : QT T S W k = y.tdiv S := by unfold QT; rw [hx, hy]
      have hR : RT T S W k = y.tmod S := by unfold RT; rw [hx, hy]
      have hlb := lsum_nk (qt_bd HW.out hT hS) k hk
      have hsn := lsum_snoc (QT T S W) k
      generalize hlf : lsum (QT T S W) (List.range k) = lf at *
      rw [hQ] at hqb hsn
      obtain ⟨q, hq⟩ : ∃ q, y.tdiv S = q := ⟨_, rfl⟩
      obtain ⟨r, hr⟩ : ∃ r, y.tmod S = r := ⟨_, rfl⟩
      have HS2 := Lib.hid (HA.out.step.drew)
      rw [hQ, hR, hq, hr] at HS2
      rw [hq] at hqb hsn
      have hq64 : wrap64 q = q := by unfold wrap64; omega
      have HQ := Lib.hid (hQ.trans hq)
      have HSN := Lib.hid hsn
      have HX := Lib.hid (And.intro hx hy)
      clear hQ hR hsn hx
      have hlw : IntKind.i64.wrap (T - lf - q) = T - lf - q := by rw [IntKind.wrap_i64]; omega
      have hS0 : ¬ S = 0 := by omega
      have hSb : (S == 0) = false := by rw [beq_eq_false_iff_ne]; exact hS0
      go_wp2_with fail
      go_region
      clear c0 c1 c2 c3 f0 f1 f3 cb HA
      generalize (((wr.setCell ⟨w.heap.size, k, none⟩ (.int .i64 q)).setCell ⟨p1, k, none⟩ (.int .i64 r)).setCell ⟨p3, k, none⟩ (.int .i64 (k : Int))).drew = w2 at HS2 ⊢
      have d0 : w2.cell? ⟨w.heap.size, k, none⟩ = some (.int .i64 q) := by rw [HS2.out.p.cell, rowN_get hlt, if_pos (by omega), HQ.out]
      go_wp2
      go_round
      case rel => exact ⟨k + 1, by omega, by go_num, by rw [HSN.out]; congr 1; omega, HS2.out⟩
      case measure => simp [intOf]; omega
    · obtain rfl : k = n := by omega
      have hlt' : ¬ (k : Int) < (k : Int) := by omega
      obtain ⟨e1, e2, e3⟩ : p1 ≠ w.heap.size ∧ p2 ≠ w.heap.size ∧ p3 ≠ w.heap.size := ⟨by have := P1.out; omega, by have := P2.out; omega, by have := P3.out; omega⟩
      obtain ⟨e4, e5, e6⟩ : p2 ≠ p1 ∧ p3 ≠ p1 ∧ p3 ≠ p2 := ⟨by have := P1.out; have := P2.out; omega, by have := P1.out; have := P3.out; omega, by have := P2.out; have := P3.out; omega⟩
      have hqr := qr_any HW.out hT.1 hS.1
      obtain ⟨L, hL⟩ := left_any hS.1 hsum hqr
      have hLe : T - lsum (QT T S W) (List.range k) = (L : Int) := by omega
      rw [hLe]
      have hfair : ∀ ord : List Nat, ord.Perm (List.range k) → ord.Pairwise (fun x y => RT T S W y ≤ RT T S W x) → Fair k T S W (QT T S W) (RT T S W) L ord := fun ord h1 h2 => ⟨hT.1, hS.1, hsum, hqr, hL, h1, h2⟩
      have HF := Lib.hid hfair
      have hcv : wr.cell? ⟨p2, 0, none⟩ = some (.slice (some ⟨p1, 0, none⟩) k k) := by rw [HA.out.v.cell]; rfl
      have hcr : ∀ i, i < k → wr.cell? ⟨p1, i, none⟩ = some (.int .i64 (RT T S W i)) := fun i hi => by rw [HA.out.r.cell, rowN_get hi, if_pos hi]
      have hco : ∀ i, i < k → wr.cell? ⟨p3, i, none⟩ = some (.int .i64 (i : Int)) ∧ wr.frozen? ⟨p3, i, none⟩ = false := fun i hi => ⟨by rw [HA.out.o.cell, rowN_get hi, if_pos hi], HA.out.o.frozen i⟩
      have HSO := Lib.hid (sort_any (n := k) (oc := k) (w := wr) (R := RT T S W) hn (by omega) hcv hcr HA.out.v.lt HA.out.r.lt (by omega) (by omega) hco)
      clear hcv hcr hco hfair hqr hL hLe
      go_wp2_with fail
      refine HSO.out.mono ?_
      rintro e w2 ⟨rfl, ord, o1, o2, o3, o4, o5, o6, o7, o8⟩
      have hlen : ord.length = k := by rw [o1.length_eq]; simp
      have hfa := HF.out ord o1 o2
      have hLn := hfa.few
      have HB := Lib.hid (BS.start HA.out o3 o4 o5 o6 o7 o8)
      have HFA := Lib.hid hfa
      clear HF HSO HA o1 o2 o3 o4 o5 o6 o7 o8 hfa
      go_wp2_with fail
      have HC2 := Lib.hid (And.intro hlt' hk)
      clear hlt' hk
      go_loopw [66] (fun i wr => ∃ j : Nat, j ≤ L ∧ i = .int .i64 j ∧ BS w p3 k (QT T S W) ord j wr) (fun i _ => L - (intOf i).toNat)
      case atStart => exact ⟨0, by omega, rfl, HB.out⟩
      case round =>
        clear HB
        obtain ⟨j, hj, rfl, hA⟩ := hrel
        have HA := Lib.hid hA
        clear hA
        by_cases hlt : j < L
        · have hlt' : (j : Int) < (L : Int) := by omega
          have hj0 : (0 : Int) ≤ (j : Int) := by omega
          have hjo : j < ord.length := by omega
          obtain ⟨a, ha⟩ : ∃ a, ord[j] = a := ⟨_, rfl⟩
          have hak : a < k := HFA.out.mem (by rw [← ha]; exact List.getElem_mem _)
          have ha0 : (0 : Int) ≤ (a : Int) := by omega
          have hak' : (a : Int) < (k : Int) := by omega
          have co : wr.cell? ⟨p3, j, none⟩ = some (.int .i64 a) := by rw [HA.out.o j hjo, ha]
          have cp : wr.cell? ⟨w.heap.size, a, none⟩ = some (.int .i64 (part (QT T S W) j ord a)) := by rw [HA.out.p.cell, rowN_get hak]
          have f0 := HA.out.p.frozen a
          have hqb := qt_bd HW.out hT hS a hak
          have hpb : 0 ≤ part (QT T S W) j ord a ∧ part (QT T S W) j ord a ≤ 29941 := by unfold part; split <;> omega
          have HS2 := Lib.hid (HA.out.step e3 HFA.out.nodup hjo ha)
          generalize part (QT T S W) j ord a = x at *
          go_wp2
          go_round
          case rel => exact ⟨j + 1, by omega, by go_num, HS2.out⟩
          case measure => simp [intOf]; omega
        · obtain rfl : j = L := by omega
          have hlt' : ¬ (j : Int) < (j : Int) := by omega
          go_wp2
          go_ret
          exact ⟨rfl, HA.out.be, j, ord, HFA.out, HA.out.p⟩
end Go.Proofs.Ytphlkeoailapcaa
