/-
  Contracts of Valid, Compare and Less of package ratio.
-/
import Derived.Test.YtphlkeoailapcaaWide
namespace Go.Proofs.Ytphlkeoailapcaa
open Go.RowKit
set_option linter.unusedSimpArgs false
set_option linter.unusedVariables false

theorem valid_no (n d : Int) (h : d < 1 ∨ 1152921504606846976 < d ∨ n < -1152921504606846976 ∨ 1152921504606846976 < n) : false = Frac.valid n d := by
  unfold Frac.valid
  rcases h with h | h | h | h
  · rw [decide_eq_false (show ¬ 1 ≤ d by omega)]; rfl
  · rw [decide_eq_false (show ¬ d ≤ 1152921504606846976 by omega)]; simp
  · rw [decide_eq_false (show ¬ -1152921504606846976 ≤ n by omega)]; simp
  · rw [decide_eq_false (show ¬ n ≤ 1152921504606846976 by omega)]; simp
theorem valid_yes (n d : Int) (h1 : 1 ≤ d) (h2 : d ≤ 1152921504606846976) (h3 : -1152921504606846976 ≤ n) (h4 : n ≤ 1152921504606846976) : (((Nat.gcd n.natAbs d.natAbs : Nat) : Int) == 1) = Frac.valid n d := by
  unfold Frac.valid
  rw [decide_eq_true h1, decide_eq_true h2, decide_eq_true h3, decide_eq_true h4, Bool.eq_iff_iff]
  simp only [beq_iff_eq, Bool.true_and]
  omega

set_option maxHeartbeats 1000000 in
theorem valid_any (n d : Int) (n0 : -9223372036854775808 ≤ n) (n1 : n < 9223372036854775808) (d0 : -9223372036854775808 ≤ d) (d1 : d < 9223372036854775808) (w : World) :
    Calls Try.prog 43 #[.agg #[.int .i64 n, .int .i64 d]] w fun e w' => e = .returned (.bool (Frac.valid n d)) ∧ Below w.heap.size w w' := by
  by_cases h1 : d < 1
  · have H := Lib.hid (valid_no n d (.inl h1))
    go_enter Try.func43, Try.ntmps43
    go_wp2
    go_ret
    exact ⟨ret_bool H.out, bAl (Below.refl _ _) _⟩
  by_cases h2 : 1152921504606846976 < d
  · have H := Lib.hid (valid_no n d (.inr (.inl h2)))
    go_enter Try.func43, Try.ntmps43
    go_wp2
    go_ret
    exact ⟨ret_bool H.out, bAl (Below.refl _ _) _⟩
  by_cases h3 : n < -1152921504606846976
  · have H := Lib.hid (valid_no n d (.inr (.inr (.inl h3))))
    go_enter Try.func43, Try.ntmps43
    go_wp2
    go_ret
    exact ⟨ret_bool H.out, bAl (Below.refl _ _) _⟩
  by_cases h4 : 1152921504606846976 < n
  · have H := Lib.hid (valid_no n d (.inr (.inr (.inr h4))))
    go_enter Try.func43, Try.ntmps43
    go_wp2
    go_ret
    exact ⟨ret_bool H.out, bAl (Below.refl _ _) _⟩
  have H := Lib.hid (valid_yes n d (by omega) (by omega) (by omega) (by omega))
  go_enter Try.func43, Try.ntmps43
  go_wp2_with fail
  go_quiet ((first | (go_at_call 45; exact qSame (magnitude_any _ (by omega) (by omega) _)) | (go_at_call 44; exact Calls.quiet_of (gcd_any _ _ (by omega) (by omega) _))))
  go_wp2
  go_ret
  exact ⟨ret_bool H.out, bDr (bAl (Below.refl _ _) _) _⟩

/-- what Compare answers -/
def cmpR (a b c d : Int) : Int := if Frac.valid a b = true ∧ Frac.valid c d = true then cmpI (a * d) (c * b) else 0
theorem cmpR_no1 (a b c d : Int) (h : Frac.valid a b = false) : 0 = cmpR a b c d := by unfold cmpR; rw [if_neg (by rw [h]; simp)]
theorem cmpR_no2 (a b c d : Int) (h : Frac.valid c d = false) : 0 = cmpR a b c d := by unfold cmpR; rw [if_neg (by rw [h]; simp)]
theorem cmpR_yes (a b c d : Int) (h : Frac.valid a b = true) (h' : Frac.valid c d = true) : cmpI (a * d) (c * b) = cmpR a b c d := by unfold cmpR; rw [if_pos ⟨h, h'⟩]
theorem mul_bd (a b : Int) (a0 : -9223372036854775808 ≤ a) (a1 : a < 9223372036854775808) (b0 : -9223372036854775808 ≤ b) (b1 : b < 9223372036854775808) :
    -170141183460469231731687303715884105728 ≤ a * b ∧ a * b ≤ 85070591730234615865843651857942052864 := by
  have h : a.natAbs * b.natAbs ≤ 9223372036854775808 * 9223372036854775808 := Nat.mul_le_mul (by omega) (by omega)
  rw [← Int.natAbs_mul] at h
  omega

set_option maxHeartbeats 2000000 in
theorem ratio_compare (a b c d : Int) (a0 : -9223372036854775808 ≤ a) (a1 : a < 9223372036854775808) (b0 : -9223372036854775808 ≤ b) (b1 : b < 9223372036854775808)
    (c0 : -9223372036854775808 ≤ c) (c1 : c < 9223372036854775808) (d0 : -9223372036854775808 ≤ d) (d1 : d < 9223372036854775808) (w : World) :
    Calls Try.prog 25 #[.agg #[.int .i64 a, .int .i64 b], .agg #[.int .i64 c, .int .i64 d]] w fun e w' => e = .returned (.int .i64 (cmpR a b c d)) ∧ Below w.heap.size w w' := by
  cases hv : Frac.valid a b
  · have H := Lib.hid (cmpR_no1 a b c d hv)
    go_enter Try.func25, Try.ntmps25
    go_wp2_with fail
    refine (valid_any _ _ a0 a1 b0 b1 _).mono ?_
    rintro e w1 ⟨rfl, hb⟩
    go_wp2
    go_ret
    exact ⟨ret_int H.out, bTr (bAl (bAl (Below.refl _ _) _) _) hb⟩
  cases hv2 : Frac.valid c d
  · have H := Lib.hid (cmpR_no2 a b c d hv2)
    go_enter Try.func25, Try.ntmps25
    go_wp2_with fail
    refine (valid_any _ _ a0 a1 b0 b1 _).mono ?_
    rintro e w1 ⟨rfl, hb⟩
    obtain ⟨hc, hf⟩ := bcell hb
    have hz : w.heap.size + 1 < w1.heap.size := by have := hb.size; simp at this; omega
    go_wp2_with fail
    refine (valid_any _ _ c0 c1 d0 d1 _).mono ?_
    rintro e w2 ⟨rfl, hb2⟩
    go_wp2
    go_ret
    exact ⟨ret_int H.out, bTr (bTr (bAl (bAl (Below.refl _ _) _) _) hb) hb2⟩
  have H := Lib.hid (cmpR_yes a b c d hv hv2)
  have m1 := mul_bd a d a0 a1 d0 d1
  have m2 := mul_bd c b c0 c1 b0 b1
  go_enter Try.func25, Try.ntmps25
  go_wp2_with fail
  refine (valid_any _ _ a0 a1 b0 b1 _).mono ?_
  rintro e w1 ⟨rfl, hb⟩
  obtain ⟨hc, hf⟩ := bcell hb
  have hz : w.heap.size + 1 < w1.heap.size := by have := hb.size; simp at this; omega
  go_wp2_with fail
  refine (valid_any _ _ c0 c1 d0 d1 _).mono ?_
  rintro e w2 ⟨rfl, hb2⟩
  have hb3 := bTr hb hb2
  clear hb hb2 hc hf hz
  obtain ⟨hc, hf⟩ := bcell hb3
  have hz : w.heap.size + 1 < w2.heap.size := by have := hb3.size; simp at this; omega
  have e1 : w2.cell? ⟨w.heap.size, 0, none⟩ = some (.int .i64 a) := by rw [hc _ _ (by simp; omega)]; simp [go_sem]
  have e2 : w2.cell? ⟨w.heap.size, 1, none⟩ = some (.int .i64 b) := by rw [hc _ _ (by simp; omega)]; simp [go_sem]
  have e3 : w2.cell? ⟨w.heap.size + 1, 0, none⟩ = some (.int .i64 c) := by rw [hc _ _ (by simp)]; simp [go_sem]
  have e4 : w2.cell? ⟨w.heap.size + 1, 1, none⟩ = some (.int .i64 d) := by rw [hc _ _ (by simp)]; simp [go_sem]
  have HB := Lib.hid (bTr (bAl (bAl (Below.refl _ _) _) _) hb3)
  clear hc hf hb3
  go_wp2_with fail
  go_region_held3 (fun w' => w'.cell? ⟨w.heap.size, 0, none⟩ = some (.int .i64 a) ∧ w'.cell? ⟨w.heap.size, 1, none⟩ = some (.int .i64 b) ∧ w'.cell? ⟨w.heap.size + 1, 0, none⟩ = some (.int .i64 c) ∧ w'.cell? ⟨w.heap.size + 1, 1, none⟩ = some (.int .i64 d)) (first | go_keep | (go_split_ands; refine ⟨?_, ?_, ?_, ?_⟩ <;> (rw [hb.cell (by simp; omega)]; assumption)))
    (first | (go_at_call 46; refine (product_any _ _ _ ?_ ?_ ?_ ?_).mono ?_; (first | assumption); (first | assumption); (first | assumption); (first | assumption); rintro e w' ⟨rfl, hb⟩; have hz := Nat.lt_of_lt_of_le hz hb.size; have HB := Lib.hid (bTr (by first | exact HB.out | exact bD1 HB.out) hb)) | (go_at_call 59; refine (compare_val _ _ ?_ ?_ ?_ ?_ _).mono ?_; (exact m1.1); (omega); (exact m2.1); (omega); rintro e w' ⟨rfl, hb⟩; have HB := Lib.hid (bTr (by first | exact HB.out | exact bD1 HB.out) hb)))
  go_wp2
  go_ret
  exact ⟨ret_int H.out, HB.out⟩

set_option maxHeartbeats 400000 in
theorem ratio_less (a b c d : Int) (a0 : -9223372036854775808 ≤ a) (a1 : a < 9223372036854775808) (b0 : -9223372036854775808 ≤ b) (b1 : b < 9223372036854775808)
    (c0 : -9223372036854775808 ≤ c) (c1 : c < 9223372036854775808) (d0 : -9223372036854775808 ≤ d) (d1 : d < 9223372036854775808) (w : World) :
    Calls Try.prog 27 #[.agg #[.int .i64 a, .int .i64 b], .agg #[.int .i64 c, .int .i64 d]] w fun e w' => e = .returned (.bool (decide (cmpR a b c d < 0))) ∧ Below w.heap.size w w' := by
  go_enter Try.func27, Try.ntmps27
  go_wp2_with fail
  refine (ratio_compare _ _ _ _ a0 a1 b0 b1 c0 c1 d0 d1 _).mono ?_
  rintro e w1 ⟨rfl, hb⟩
  go_wp2
  go_ret
  exact ⟨rfl, bTr (bAl (bAl (Below.refl _ _) _) _) hb⟩
end Go.Proofs.Ytphlkeoailapcaa
