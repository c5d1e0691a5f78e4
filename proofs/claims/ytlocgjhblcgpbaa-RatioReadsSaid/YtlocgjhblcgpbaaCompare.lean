/-
  Contracts of the reference's total and Compare, and the walk of the statement on Compare and Less.
-/
import Derived.Test.YtlocgjhblcgpbaaRefValid
namespace Go.Proofs.Ytlocgjhblcgpbaa
open Go.RowKit
set_option linter.unusedSimpArgs false
set_option linter.unusedVariables false

/-- the sum of two signed magnitudes -/
def totS (x : Bool) (A : Int) (y : Bool) (B : Int) : Bool := if x = y then x else if B ≤ A then x else y
def totN (x : Bool) (A : Int) (y : Bool) (B : Int) : Int := if x = y then A + B else if B ≤ A then A - B else B - A
theorem tot_sum (x : Bool) (A : Int) (y : Bool) (B : Int) : Rep.sgn (totS x A y B) (totN x A y B) = Rep.sgn x A + Rep.sgn y B := by
  unfold totS totN
  by_cases h : B ≤ A <;> cases x <;> cases y <;> simp [Rep.sgn, h] <;> omega
theorem tot_pos (x : Bool) (A : Int) (y : Bool) (B : Int) (hA : 0 ≤ A) (hB : 0 ≤ B) : 0 ≤ totN x A y B ∧ totN x A y B ≤ A + B := by
  unfold totN
  split
  · omega
  · split <;> omega
theorem ret_tot {x : Bool} {A : Int} {y : Bool} {B : Int} {s : Bool} {n : Int} (h1 : s = totS x A y B) (h2 : n = totN x A y B) :
    Ending.returned (.tuple #[.bool s, .agg #[.int .u64 (Rep.hi n), .int .u64 (Rep.lo n)]]) = .returned (.tuple #[.bool (totS x A y B), .agg #[.int .u64 (Rep.hi (totN x A y B)), .int .u64 (Rep.lo (totN x A y B))]]) := by
  rw [h1, h2]

set_option maxHeartbeats 2000000 in
theorem r_total (x y : Bool) (A B : Int) (w : World) (A0 : 0 ≤ A) (A1 : A < 170141183460469231731687303715884105728) (B0 : 0 ≤ B) (B1 : B < 170141183460469231731687303715884105728) :
    Calls Try.prog 50 #[.bool x, .agg #[.int .u64 (Rep.hi A), .int .u64 (Rep.lo A)], .bool y, .agg #[.int .u64 (Rep.hi B), .int .u64 (Rep.lo B)]] w fun e w' => e = .returned (.tuple #[.bool (totS x A y B), .agg #[.int .u64 (Rep.hi (totN x A y B)), .int .u64 (Rep.lo (totN x A y B))]]) ∧ Below w.heap.size w w' := by
  have VA := Lib.hid (Rep.val_hi_lo A A0 (by omega))
  have VB := Lib.hid (Rep.val_hi_lo B B0 (by omega))
  have h1 := Rep.hi_bd A
  have h2 := Rep.lo_bd A
  have h3 := Rep.hi_bd B
  have h4 := Rep.lo_bd B
  generalize Rep.hi A = ah at VA h1 ⊢
  generalize Rep.lo A = al at VA h2 ⊢
  generalize Rep.hi B = bh at VB h3 ⊢
  generalize Rep.lo B = bl at VB h4 ⊢
  by_cases hxy : x = y
  · subst hxy
    have HS : Hid (x = totS x A x B ∧ A + B = totN x A x B) := ⟨by unfold totS; rw [if_pos rfl], by unfold totN; rw [if_pos rfl]⟩
    have hx : (x == x) = true := by cases x <;> rfl
    go_enter Try.func50, Try.ntmps50
    go_wp2_with fail
    refine (r_plus _ _ _ _ _ h1.1 h2.1 h3.1 h4.1 h1.2 h2.2 h3.2 h4.2).mono ?_
    rintro e w1 ⟨rfl, hb⟩
    rw [VA.out, VB.out]
    have PB := (Blk.newAt (w := (w.alloc (.cells #[.int .u64 ah, .int .u64 al] 65)).alloc (.cells #[.int .u64 bh, .int .u64 bl] 65)) (n := w.heap.size + 1 + 1) (t := 65) (cs := #[.int .u64 0, .int .u64 0]) (by simp)).later hb
    obtain ⟨⟨c0, c1⟩, ⟨f0, f1⟩, k⟩ := PB.two
    have HB := Lib.hid (bTr (bAl (bAl (bAl (Below.refl _ _) _) _) _) hb)
    clear PB hb
    go_wp2
    refine bodyPost_ret (v := .tuple #[.bool x, .agg #[.int .u64 (Rep.hi (A + B)), .int .u64 (Rep.lo (A + B))]]) (by simp [results, Try.results50, go_sem, c0, c1, k]) rfl ⟨ret_tot HS.out.1 HS.out.2, ?_⟩
    exact bSt (bSt HB.out (by simp; omega) _) (by simp; omega) _
  · have hx : (x == y) = false := by rw [beq_eq_false_iff_ne]; exact hxy
    by_cases hBA : B ≤ A
    · have HS : Hid (x = totS x A y B ∧ A - B = totN x A y B) := ⟨by unfold totS; rw [if_neg hxy, if_pos hBA], by unfold totN; rw [if_neg hxy, if_pos hBA]⟩
      have HC : 0 ≤ cmpI A B := by unfold cmpI; omega
      go_enter Try.func50, Try.ntmps50
      go_wp2_with fail
      refine (r_order _ _ _ _ _ h1.1 h2.1 h3.1 h4.1 h1.2 h2.2 h3.2 h4.2).mono ?_
      rintro e w1 ⟨rfl, hb⟩
      rw [VA.out, VB.out]
      have P0 : Aside (Blk w1 w.heap.size 65 #[.int .u64 ah, .int .u64 al] ∧ Blk w1 (w.heap.size + 1) 65 #[.int .u64 bh, .int .u64 bl] ∧ Blk w1 (w.heap.size + 1 + 1) 65 #[.int .u64 0, .int .u64 0] ∧ Below w.heap.size w w1) :=
        ⟨(((Blk.newAt rfl).alloc _).alloc _).later hb, ((Blk.newAt (by simp)).alloc _).later hb, (Blk.newAt (by simp)).later hb, bTr (bAl (bAl (bAl (Below.refl _ _) _) _) _) hb⟩
      clear hb
      obtain ⟨⟨c00, c01⟩, ⟨f00, f01⟩, k0⟩ := P0.out.1.two
      obtain ⟨⟨c10, c11⟩, ⟨f10, f11⟩, k1⟩ := P0.out.2.1.two
      go_wp2_with fail
      refine (r_minus _ _ _ _ _ h1.1 h2.1 h3.1 h4.1 h1.2 h2.2 h3.2 h4.2).mono ?_
      rintro e w2 ⟨rfl, hb⟩
      rw [VA.out, VB.out]
      have PB := P0.out.2.2.1.later hb
      have HB := Lib.hid (P0.out.2.2.2.trans (hb.mono P0.out.2.2.2.size))
      clear P0 hb c00 c01 f00 f01 k0 c10 c11 f10 f11 k1
      obtain ⟨⟨c0, c1⟩, ⟨f0, f1⟩, k⟩ := PB.two
      clear PB
      go_wp2
      refine bodyPost_ret (v := .tuple #[.bool x, .agg #[.int .u64 (Rep.hi (A - B)), .int .u64 (Rep.lo (A - B))]]) (by simp [results, Try.results50, go_sem, c0, c1, k]) rfl ⟨ret_tot HS.out.1 HS.out.2, ?_⟩
      exact bSt (bSt HB.out (by simp; omega) _) (by simp; omega) _
    · have HS : Hid (y = totS x A y B ∧ B - A = totN x A y B) := ⟨by unfold totS; rw [if_neg hxy, if_neg hBA], by unfold totN; rw [if_neg hxy, if_neg hBA]⟩
      have HC : ¬ 0 ≤ cmpI A B := by unfold cmpI; omega
      go_enter Try.func50, Try.ntmps50
      go_wp2_with fail
      refine (r_order _ _ _ _ _ h1.1 h2.1 h3.1 h4.1 h1.2 h2.2 h3.2 h4.2).mono ?_
      rintro e w1 ⟨rfl, hb⟩
      rw [VA.out, VB.out]
      have P0 : Aside (Blk w1 w.heap.size 65 #[.int .u64 ah, .int .u64 al] ∧ Blk w1 (w.heap.size + 1) 65 #[.int .u64 bh, .int .u64 bl] ∧ Blk w1 (w.heap.size + 1 + 1) 65 #[.int .u64 0, .int .u64 0] ∧ Below w.heap.size w w1) :=
        ⟨(((Blk.newAt rfl).alloc _).alloc _).later hb, ((Blk.newAt (by simp)).alloc _).later hb, (Blk.newAt (by simp)).later hb, bTr (bAl (bAl (bAl (Below.refl _ _) _) _) _) hb⟩
      clear hb
      obtain ⟨⟨c00, c01⟩, ⟨f00, f01⟩, k0⟩ := P0.out.1.two
      obtain ⟨⟨c10, c11⟩, ⟨f10, f11⟩, k1⟩ := P0.out.2.1.two
      go_wp2_with fail
      refine (r_minus _ _ _ _ _ h3.1 h4.1 h1.1 h2.1 h3.2 h4.2 h1.2 h2.2).mono ?_
      rintro e w2 ⟨rfl, hb⟩
      rw [VA.out, VB.out]
      have PB := P0.out.2.2.1.later hb
      have HB := Lib.hid (P0.out.2.2.2.trans (hb.mono P0.out.2.2.2.size))
      clear P0 hb c00 c01 f00 f01 k0 c10 c11 f10 f11 k1
      obtain ⟨⟨c0, c1⟩, ⟨f0, f1⟩, k⟩ := PB.two
      clear PB
      go_wp2
      refine bodyPost_ret (v := .tuple #[.bool y, .agg #[.int .u64 (Rep.hi (B - A)), .int .u64 (Rep.lo (B - A))]]) (by simp [results, Try.results50, go_sem, c0, c1, k]) rfl ⟨ret_tot HS.out.1 HS.out.2, ?_⟩
      exact bSt (bSt HB.out (by simp; omega) _) (by simp; omega) _

theorem sgn_lt (a : Int) : Rep.sgn (decide (a < 0)) (a.natAbs : Int) = a := by
  by_cases h : a < 0
  · rw [decide_eq_true h]; show -(a.natAbs : Int) = a; omega
  · rw [decide_eq_false h]; show (a.natAbs : Int) = a; omega
theorem sgn_gt (c : Int) : Rep.sgn (decide (0 < c)) (c.natAbs : Int) = -c := by
  by_cases h : 0 < c
  · rw [decide_eq_true h]; show -(c.natAbs : Int) = -c; omega
  · rw [decide_eq_false h]; show (c.natAbs : Int) = -c; omega
theorem sgn_mul (s : Bool) (x y : Int) : Rep.sgn s (x * y) = Rep.sgn s x * y := by
  cases s
  · rfl
  · show -(x * y) = -x * y; rw [Int.neg_mul]
/-- what the reference's Compare reads off the sum of the signed products -/
theorem cmp_of_tot (a b c d : Int) (hb : 0 < b) (hd : 0 < d) :
    cmpI (a * d) (c * b) = if totN (decide (a < 0)) ((a.natAbs : Int) * (d.natAbs : Int)) (decide (0 < c)) ((c.natAbs : Int) * (b.natAbs : Int)) = 0 then 0 else if totS (decide (a < 0)) ((a.natAbs : Int) * (d.natAbs : Int)) (decide (0 < c)) ((c.natAbs : Int) * (b.natAbs : Int)) then -1 else 1 := by
  have ha0 : 0 ≤ (a.natAbs : Int) * (d.natAbs : Int) := Int.mul_nonneg (by omega) (by omega)
  have hc0 : 0 ≤ (c.natAbs : Int) * (b.natAbs : Int) := Int.mul_nonneg (by omega) (by omega)
  have h := tot_sum (decide (a < 0)) ((a.natAbs : Int) * (d.natAbs : Int)) (decide (0 < c)) ((c.natAbs : Int) * (b.natAbs : Int))
  have p := tot_pos (decide (a < 0)) ((a.natAbs : Int) * (d.natAbs : Int)) (decide (0 < c)) ((c.natAbs : Int) * (b.natAbs : Int)) ha0 hc0
  rw [sgn_mul, sgn_mul, sgn_lt, sgn_gt, show (d.natAbs : Int) = d by omega, show (b.natAbs : Int) = b by omega, Int.neg_mul] at h
  rw [show (d.natAbs : Int) = d by omega, show (b.natAbs : Int) = b by omega] at p ⊢
  generalize totN (decide (a < 0)) ((a.natAbs : Int) * d) (decide (0 < c)) ((c.natAbs : Int) * b) = n at h p ⊢
  cases hs : totS (decide (a < 0)) ((a.natAbs : Int) * d) (decide (0 < c)) ((c.natAbs : Int) * b) <;> rw [hs] at h <;> unfold cmpI
  · have h' : n = a * d + -(c * b) := h
    rw [if_neg (show ¬ (false = true) by decide)]
    split <;> split <;> (try split) <;> omega
  · have h' : -n = a * d + -(c * b) := h
    rw [if_pos rfl]
    split <;> split <;> (try split) <;> omega
theorem valid_den {a b : Int} (h : Frac.valid a b = true) : 0 < b := by
  unfold Frac.valid at h
  simp only [Bool.and_eq_true, decide_eq_true_eq] at h
  omega
end Go.Proofs.Ytlocgjhblcgpbaa
