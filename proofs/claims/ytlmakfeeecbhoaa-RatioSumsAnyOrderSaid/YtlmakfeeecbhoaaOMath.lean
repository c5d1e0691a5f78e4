/-
  The order of fractions, and the roundings beside the floor, in plain arithmetic.
-/
import Derived.Test.YtlmakfeeecbhoaaQMath
import Derived.Test.YtlmakfeeecbhoaaRound
namespace Go.Proofs.Ytlmakfeeecbhoaa
set_option linter.unusedSimpArgs false
set_option linter.unusedVariables false

theorem up_floor (n d : Int) (d0 : 1 ≤ d) : -((-n) / d) = if ruleUp (oddB (n / d)) (n % d) d then n / d + 1 else n / d := by
  have b := Int.mul_ediv_add_emod n d
  have c := Int.emod_nonneg n (show d ≠ 0 by omega)
  have e := Int.emod_lt_of_pos n (show 0 < d by omega)
  unfold ruleUp
  by_cases h : 0 < n % d
  · rw [decide_eq_true h, if_pos rfl]
    have : -n = (d - n % d) + d * (-(n / d) - 1) := by rw [Int.mul_sub, Int.mul_neg]; omega
    rw [this, Int.add_mul_ediv_left _ _ (by omega), Int.ediv_eq_zero_of_lt (by omega) (by omega)]
    omega
  · rw [decide_eq_false h, if_neg (by decide)]
    have : -n = 0 + d * (-(n / d)) := by rw [Int.mul_neg]; omega
    rw [this, Int.add_mul_ediv_left _ _ (by omega), Int.zero_ediv]
    omega
theorem cmpI_swap (x y : Int) : cmpI y x = -cmpI x y := by unfold cmpI; repeat' split <;> omega
theorem cmpI_zero (x y : Int) : cmpI x y = 0 ↔ x = y := by unfold cmpI; split <;> (try split) <;> omega
theorem cmpI_le (x y : Int) : cmpI x y ≤ 0 ↔ x ≤ y := by unfold cmpI; split <;> (try split) <;> omega
theorem cmpI_gt (x y : Int) : 0 < cmpI x y ↔ y < x := by unfold cmpI; split <;> (try split) <;> omega
theorem cmpI_lt (x y : Int) : cmpI x y < 0 ↔ x < y := by unfold cmpI; split <;> (try split) <;> omega
theorem cmpI_bd (x y : Int) : -1 ≤ cmpI x y ∧ cmpI x y ≤ 1 := by unfold cmpI; split <;> (try split) <;> omega
theorem cmpI_of {x y x' y' : Int} (h1 : x < y ↔ x' < y') (h2 : y < x ↔ y' < x') : cmpI x y = cmpI x' y' := by
  unfold cmpI
  by_cases a : x < y
  · rw [if_pos a, if_pos (h1.1 a)]
  · rw [if_neg a, if_neg (fun k => a (h1.2 k))]
    by_cases b : x > y
    · rw [if_pos b, if_pos (h2.1 b)]
    · rw [if_neg b, if_neg (fun k => b (h2.2 k))]
theorem den_pos {a b : Int} (h : Frac.valid a b = true) : 0 < b := by have := ((valid_iff a b).1 h).1; omega
theorem cmpR_bd (a b c d : Int) : -1 ≤ cmpR a b c d ∧ cmpR a b c d ≤ 1 := by
  unfold cmpR; split
  · exact cmpI_bd _ _
  · omega
theorem cmpR_swap {a b c d : Int} (h : Frac.valid a b = true) (k : Frac.valid c d = true) : cmpR c d a b = -cmpR a b c d := by
  rw [← cmpR_yes a b c d h k, ← cmpR_yes c d a b k h]; exact cmpI_swap _ _
theorem cmpR_zero {a b c d : Int} (h : Frac.valid a b = true) (k : Frac.valid c d = true) : cmpR a b c d = 0 ↔ a = c ∧ b = d := by
  rw [← cmpR_yes a b c d h k, cmpI_zero]
  exact ⟨valid_eq h k, fun e => by rw [e.1, e.2]⟩
theorem lt_of_mul {x y k : Int} (hk : 0 < k) : x < y ↔ x * k < y * k :=
  ⟨fun h => Int.mul_lt_mul_of_pos_right h hk, fun h => Int.lt_of_mul_lt_mul_right h (Int.le_of_lt hk)⟩
theorem cmpR_trans {a b c d e f : Int} (h : Frac.valid a b = true) (k : Frac.valid c d = true) (l : Frac.valid e f = true) (h1 : cmpR a b c d ≤ 0) (h2 : cmpR c d e f ≤ 0) : cmpR a b e f ≤ 0 := by
  rw [← cmpR_yes a b c d h k, cmpI_le] at h1
  rw [← cmpR_yes c d e f k l, cmpI_le] at h2
  rw [← cmpR_yes a b e f h l, cmpI_le]
  have hb := den_pos h
  have hd := den_pos k
  have hf := den_pos l
  have e1 : a * d * f ≤ c * b * f := Int.mul_le_mul_of_nonneg_right h1 (by omega)
  have e2 : c * f * b ≤ e * d * b := Int.mul_le_mul_of_nonneg_right h2 (by omega)
  have e3 : a * f * d ≤ e * b * d := by
    have x1 : a * f * d = a * d * f := by grind
    have x2 : c * b * f = c * f * b := by grind
    have x3 : e * d * b = e * b * d := by grind
    omega
  exact Int.le_of_mul_le_mul_right e3 hd
/-- addition keeps the order -/
theorem cmpR_add {a b c d e f x1 x2 y1 y2 : Int} (h : Frac.valid a b = true) (k : Frac.valid c d = true) (l : Frac.valid e f = true) (hx : Frac.valid x1 x2 = true) (hy : Frac.valid y1 y2 = true)
    (ex : x1 * (b * f) = (a * f + e * b) * x2) (ey : y1 * (d * f) = (c * f + e * d) * y2) : cmpR x1 x2 y1 y2 = cmpR a b c d := by
  rw [← cmpR_yes a b c d h k, ← cmpR_yes x1 x2 y1 y2 hx hy]
  have hb := den_pos h
  have hd := den_pos k
  have hf := den_pos l
  have h2 := den_pos hx
  have k2 := den_pos hy
  have hm : 0 < (b * f) * (d * f) := Int.mul_pos (Int.mul_pos hb hf) (Int.mul_pos hd hf)
  have hn : 0 < x2 * y2 * (f * f) := Int.mul_pos (Int.mul_pos h2 k2) (Int.mul_pos hf hf)
  have u1 : x1 * y2 * ((b * f) * (d * f)) = (a * f + e * b) * (d * f) * (x2 * y2) := by grind
  have u2 : y1 * x2 * ((b * f) * (d * f)) = (c * f + e * d) * (b * f) * (x2 * y2) := by grind
  have v : (a * f + e * b) * (d * f) * (x2 * y2) - (c * f + e * d) * (b * f) * (x2 * y2) = a * d * (x2 * y2 * (f * f)) - c * b * (x2 * y2 * (f * f)) := by grind
  refine cmpI_of ?_ ?_
  · rw [lt_of_mul hm, u1, u2, lt_of_mul hn (x := a * d) (y := c * b)]; omega
  · rw [lt_of_mul hm, u1, u2, lt_of_mul hn (x := c * b) (y := a * d)]; omega
/-- what is left above the floor -/
theorem rest_q {p q : Int} (h : Frac.valid p q = true) : qn (p * 1 + -(p / q) * q) (q * 1) = p % q ∧ qd (p * 1 + -(p / q) * q) (q * 1) = q ∧ qe (p * 1 + -(p / q) * q) (q * 1) = 0 ∧ Frac.valid (p % q) q = true := by
  obtain ⟨h1, h2, h3, h4, h5⟩ := (valid_iff p q).1 h
  have a := Int.mul_ediv_add_emod p q
  have b := Int.emod_nonneg p (show q ≠ 0 by omega)
  have c := Int.emod_lt_of_pos p (show 0 < q by omega)
  have hv : Frac.valid (p % q) q = true := by
    refine (valid_iff _ _).2 ⟨h1, h2, by omega, by omega, ?_⟩
    have : Int.gcd (p % q) q = Int.gcd p q := by
      have e : p % q = p + q * (-(p / q)) := by rw [Int.mul_neg]; omega
      rw [e, Int.gcd_add_mul_left_left]
    exact this.trans h5
  have e1 : p * 1 + -(p / q) * q = p % q := by rw [Int.neg_mul, Int.mul_comm (p / q) q]; omega
  rw [e1, Int.mul_one]
  exact ⟨(q_self hv).1, (q_self hv).2.1, (q_self hv).2.2, hv⟩
theorem ceil_floor {p q : Int} (h : Frac.valid p q = true) : roundV ruleUp p q = -roundV ruleDown (-p) q := by
  have hv := valid_neg h
  have h1 := den_pos h
  unfold roundV
  rw [if_pos h, if_pos hv]
  rw [← up_floor p q (by omega)]
  unfold ruleDown
  simp
theorem floor_at {p q : Int} (h : Frac.valid p q = true) : roundV ruleDown p q = p / q := by unfold roundV ruleDown; rw [if_pos h]; simp
/-- Round and Even beside the floor, by what is left -/
theorem round_at {p q : Int} (h : Frac.valid p q = true) : roundV ruleHalf p q = if 2 * (p % q) < q then p / q else p / q + 1 := by
  unfold roundV ruleHalf; rw [if_pos h]
  by_cases k : 2 * (p % q) < q
  · rw [if_pos k, decide_eq_false (by omega)]; rfl
  · rw [if_neg k, decide_eq_true (by omega)]; rfl
theorem even_at {p q : Int} (h : Frac.valid p q = true) (k : 2 * (p % q) ≠ q) : roundV ruleEven p q = if 2 * (p % q) < q then p / q else p / q + 1 := by
  unfold roundV ruleEven; rw [if_pos h]
  have e : (p % q == q - p % q) = false := by rw [beq_eq_false_iff_ne]; omega
  rw [e]
  by_cases j : 2 * (p % q) < q
  · rw [if_pos j, decide_eq_false (by omega)]; rfl
  · rw [if_neg j, decide_eq_true (by omega)]; rfl
theorem even_half {p q : Int} (h : Frac.valid p q = true) (k : 2 * (p % q) = q) : roundV ruleEven p q = if (p / q).tmod 2 = 0 then p / q else p / q + 1 := by
  unfold roundV ruleEven oddB; rw [if_pos h]
  have e : (p % q == q - p % q) = true := by rw [beq_iff_eq]; omega
  rw [e, decide_eq_false (by omega)]
  by_cases j : (p / q).tmod 2 = 0
  · rw [if_pos j, j]; rfl
  · rw [if_neg j]
    have : ((p / q).tmod 2 != 0) = true := by rw [bne_iff_ne]; exact j
    rw [this]; rfl
theorem even_half_even {p q : Int} (h : Frac.valid p q = true) (k : 2 * (p % q) = q) : (roundV ruleEven p q).tmod 2 = 0 := by
  rw [even_half h k]
  split
  · assumption
  · rename_i hn
    rw [← Int.dvd_iff_tmod_eq_zero, Int.dvd_iff_emod_eq_zero] at hn ⊢
    omega
theorem half_only {r q : Int} (h : Frac.valid r q = true) : (r = 1 ∧ q = 2) ↔ 2 * r = q := by
  constructor
  · omega
  · intro e
    have := valid_eq (a := r) (b := q) (c := 1) (d := 2) h (by decide +kernel) (by omega)
    exact this
end Go.Proofs.Ytlmakfeeecbhoaa
