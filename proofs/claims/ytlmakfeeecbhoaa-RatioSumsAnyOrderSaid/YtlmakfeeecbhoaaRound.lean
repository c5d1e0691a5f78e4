/-
  Contracts of the rounding functions of package ratio.
-/
import Derived.Test.YtlmakfeeecbhoaaDraw
namespace Go.Proofs.Ytlmakfeeecbhoaa
open Go.RowKit
set_option linter.unusedSimpArgs false
set_option linter.unusedVariables false

theorem tdiv_facts (x n : Int) (h : 1 ≤ n) : x / n = if x.tmod n < 0 then x.tdiv n - 1 else x.tdiv n := by
  obtain ⟨h1, h2, h3⟩ := tmod_facts x n h
  have a := Int.mul_tdiv_add_tmod x n
  have b := Int.mul_ediv_add_emod x n
  have c := Int.emod_nonneg x (show n ≠ 0 by omega)
  have d := Int.emod_lt_of_pos x (show 0 < n by omega)
  have key : n * (x / n - x.tdiv n) = x.tmod n - x % n := by rw [Int.mul_sub]; omega
  split
  · rename_i hn
    rw [if_pos hn] at h3
    have : n * (x / n - x.tdiv n + 1) = 0 := by rw [Int.mul_add]; omega
    rcases Int.mul_eq_zero.1 this with e | e <;> omega
  · rename_i hn
    rw [if_neg hn] at h3
    have : n * (x / n - x.tdiv n) = 0 := by omega
    rcases Int.mul_eq_zero.1 this with e | e <;> omega
theorem tdiv_bd (x n : Int) (h : 1 ≤ n) (x0 : -1152921504606846976 ≤ x) (x1 : x ≤ 1152921504606846976) : -1152921504606846976 ≤ x.tdiv n ∧ x.tdiv n ≤ 1152921504606846976 := by
  have := Int.natAbs_tdiv_le_natAbs x n
  omega

/-- what a rule answers: odd, rest, den -/
def oddB (q : Int) : Bool := q.tmod 2 != 0
def ruleDown (_ : Bool) (_ _ : Int) : Bool := false
def ruleUp (_ : Bool) (r _ : Int) : Bool := decide (0 < r)
def ruleHalf (_ : Bool) (r d : Int) : Bool := decide (d - r ≤ r)
def ruleEven (o : Bool) (r d : Int) : Bool := decide (d - r < r) || ((r == d - r) && o)
def roundV (R : Bool → Int → Int → Bool) (n d : Int) : Int := if Frac.valid n d then (if R (oddB (n / d)) (n % d) d then n / d + 1 else n / d) else 0

theorem down_any (o : Bool) (r d : Int) (w : World) (r0 : 0 ≤ r) (r1 : r < d) (d1 : d ≤ 1152921504606846976) : Calls Try.prog 63 #[.bool o, .int .i64 r, .int .i64 d] w fun e w' => e = .returned (.bool (ruleDown o r d)) ∧ w = w' := by
  go_enter Try.func63, Try.ntmps63
  go_wp2
  go_ret
  exact ⟨rfl, rfl⟩
theorem up_any (o : Bool) (r d : Int) (w : World) (r0 : 0 ≤ r) (r1 : r < d) (d1 : d ≤ 1152921504606846976) : Calls Try.prog 64 #[.bool o, .int .i64 r, .int .i64 d] w fun e w' => e = .returned (.bool (ruleUp o r d)) ∧ w = w' := by
  go_enter Try.func64, Try.ntmps64
  go_wp2
  go_ret
  exact ⟨rfl, rfl⟩
theorem half_any (o : Bool) (r d : Int) (w : World) (r0 : 0 ≤ r) (r1 : r < d) (d1 : d ≤ 1152921504606846976) : Calls Try.prog 65 #[.bool o, .int .i64 r, .int .i64 d] w fun e w' => e = .returned (.bool (ruleHalf o r d)) ∧ w = w' := by
  go_enter Try.func65, Try.ntmps65
  go_wp2
  go_ret
  exact ⟨rfl, rfl⟩
theorem even_any (o : Bool) (r d : Int) (w : World) (r0 : 0 ≤ r) (r1 : r < d) (d1 : d ≤ 1152921504606846976) : Calls Try.prog 66 #[.bool o, .int .i64 r, .int .i64 d] w fun e w' => e = .returned (.bool (ruleEven o r d)) ∧ w = w' := by
  by_cases h1 : d - r < r
  · have H := Lib.hid (show true = ruleEven o r d by unfold ruleEven; rw [decide_eq_true h1]; rfl)
    have t : decide (r > d - r) = true := decide_eq_true h1
    go_enter Try.func66, Try.ntmps66
    go_wp2
    go_ret
    exact ⟨ret_bool H.out, rfl⟩
  · have t : decide (r > d - r) = false := decide_eq_false h1
    by_cases h2 : r = d - r
    · have t2 : (r == d - r) = true := by rw [beq_iff_eq]; exact h2
      have H := Lib.hid (show o = ruleEven o r d by unfold ruleEven; rw [decide_eq_false h1, t2]; cases o <;> rfl)
      clear h2
      go_enter Try.func66, Try.ntmps66
      go_wp2
      go_ret
      exact ⟨ret_bool H.out, rfl⟩
    · have t2 : (r == d - r) = false := by rw [beq_eq_false_iff_ne]; exact h2
      have H := Lib.hid (show false = ruleEven o r d by unfold ruleEven; rw [decide_eq_false h1, t2]; rfl)
      go_enter Try.func66, Try.ntmps66
      go_wp2
      go_ret
      exact ⟨ret_bool H.out, rfl⟩

set_option maxHeartbeats 2000000 in
theorem rounded_any (F : Nat) (R : Bool → Int → Int → Bool)
    (HR : Hid (∀ (o : Bool) (r d : Int) (w : World), 0 ≤ r → r < d → d ≤ 1152921504606846976 → Calls Try.prog F #[.bool o, .int .i64 r, .int .i64 d] w fun e w' => e = .returned (.bool (R o r d)) ∧ w = w'))
    (eF : ∀ args w, (callFunc F args).run Try.prog w = .ok (.enter F args) w)
    (n d : Int) (hn : I64 n) (hd : I64 d) (w : World) :
    Calls Try.prog 62 #[.agg #[.int .i64 n, .int .i64 d], .func (.func F) #[] #[]] w fun e w' => e = .returned (.int .i64 (roundV R n d)) ∧ Below w.heap.size w w' := by
  obtain ⟨n0, n1⟩ := hn
  obtain ⟨d0, d1⟩ := hd
  cases hv : Frac.valid n d
  · have H := Lib.hid (show 0 = roundV R n d by unfold roundV; rw [hv]; rfl)
    go_enter Try.func62, Try.ntmps62
    go_wp2_with fail
    refine (valid_any _ _ n0 n1 d0 d1 _).mono ?_
    rintro e w1 ⟨rfl, hb⟩
    go_wp2
    go_ret
    exact ⟨ret_int H.out, bTr (bAl (Below.refl _ _) _) hb⟩
  have hvv : 1 ≤ d ∧ d ≤ 1152921504606846976 ∧ -1152921504606846976 ≤ n ∧ n ≤ 1152921504606846976 := by
    have h := hv
    unfold Frac.valid at h
    simp only [Bool.and_eq_true, decide_eq_true_eq] at h
    omega
  obtain ⟨v1, v2, v3, v4⟩ := hvv
  obtain ⟨m0, m1, hm⟩ := tmod_facts n d v1
  have hq := tdiv_facts n d v1
  obtain ⟨t0, t1⟩ := tdiv_bd n d v1 v3 v4
  have H := Lib.hid (show (if R (oddB (n / d)) (n % d) d then n / d + 1 else n / d) = roundV R n d by unfold roundV; rw [hv]; rfl)
  obtain ⟨T, hT⟩ : ∃ T, n.tdiv d = T := ⟨_, rfl⟩
  obtain ⟨M, hM⟩ : ∃ M, n.tmod d = M := ⟨_, rfl⟩
  rw [hM] at m0 m1 hm hq
  rw [hT] at t0 t1 hq
  have hdz : (d == 0) = false := by rw [beq_eq_false_iff_ne]; omega
  by_cases hneg : M < 0
  · rw [if_pos hneg] at hm hq
    rw [hm, hq] at H
    clear hm hq
    go_enter Try.func62, Try.ntmps62
    go_wp2_with fail
    refine (valid_any _ _ n0 n1 d0 d1 _).mono ?_
    rintro e w1 ⟨rfl, hb⟩
    rw [hv]
    have PB := (Blk.newAt (w := w) (t := 26) (cs := #[.int .i64 n, .int .i64 d]) rfl).later hb
    obtain ⟨⟨c0, c1⟩, ⟨f0, f1⟩, k⟩ := PB.two
    have HB := Lib.hid (bTr (bAl (Below.refl _ _) _) hb)
    clear PB hb hv
    go_wp2_with fail
    go_quiet (fail)
    go_wp2_with fail
    go_quiet (fail)
    go_wp2_with fail
    unfold oddB at H
    obtain ⟨bb, hbb⟩ : ∃ bb, R ((T - 1).tmod 2 != 0) (M + d) d = bb := ⟨_, rfl⟩
    refine (HR.out _ _ _ _ (by omega) (by omega) v2).mono ?_
    rintro e w2 ⟨rfl, rfl⟩
    rw [hbb] at H ⊢
    clear hbb HR
    cases bb
    · go_wp2
      go_ret
      exact ⟨ret_int (by have := H.out; simpa using this), bDr HB.out _⟩
    · go_wp2
      go_ret
      exact ⟨ret_int (by have := H.out; simpa using this), bDr HB.out _⟩
  · rw [if_neg hneg] at hm hq
    rw [hm, hq] at H
    clear hm hq
    go_enter Try.func62, Try.ntmps62
    go_wp2_with fail
    refine (valid_any _ _ n0 n1 d0 d1 _).mono ?_
    rintro e w1 ⟨rfl, hb⟩
    rw [hv]
    have PB := (Blk.newAt (w := w) (t := 26) (cs := #[.int .i64 n, .int .i64 d]) rfl).later hb
    obtain ⟨⟨c0, c1⟩, ⟨f0, f1⟩, k⟩ := PB.two
    have HB := Lib.hid (bTr (bAl (Below.refl _ _) _) hb)
    clear PB hb hv
    go_wp2_with fail
    go_quiet (fail)
    go_wp2_with fail
    unfold oddB at H
    obtain ⟨bb, hbb⟩ : ∃ bb, R ((T).tmod 2 != 0) (M) d = bb := ⟨_, rfl⟩
    refine (HR.out _ _ _ _ (by omega) (by omega) v2).mono ?_
    rintro e w2 ⟨rfl, rfl⟩
    rw [hbb] at H ⊢
    clear hbb HR
    cases bb
    · go_wp2
      go_ret
      exact ⟨ret_int (by have := H.out; simpa using this), bDr HB.out _⟩
    · go_wp2
      go_ret
      exact ⟨ret_int (by have := H.out; simpa using this), bDr HB.out _⟩

set_option maxHeartbeats 1000000 in
theorem floor_any (n d : Int) (hn : I64 n) (hd : I64 d) (w : World) : Calls Try.prog 35 #[.agg #[.int .i64 n, .int .i64 d]] w fun e w' => e = .returned (.int .i64 (roundV ruleDown n d)) ∧ Below w.heap.size w w' := by
  go_enter Try.func35, Try.ntmps35
  go_wp2_with fail
  refine (rounded_any 63 ruleDown (fun o r d w => down_any o r d w) (enters_of Try.func63 (by kernel_rfl) rfl) n d hn hd _).mono ?_
  rintro e w1 ⟨rfl, hb⟩
  have HB := Lib.hid (bTr (bAl (Below.refl _ _) _) hb)
  go_wp2
  go_ret
  exact ⟨rfl, HB.out⟩
set_option maxHeartbeats 1000000 in
theorem ceil_any (n d : Int) (hn : I64 n) (hd : I64 d) (w : World) : Calls Try.prog 36 #[.agg #[.int .i64 n, .int .i64 d]] w fun e w' => e = .returned (.int .i64 (roundV ruleUp n d)) ∧ Below w.heap.size w w' := by
  go_enter Try.func36, Try.ntmps36
  go_wp2_with fail
  refine (rounded_any 64 ruleUp (fun o r d w => up_any o r d w) (enters_of Try.func64 (by kernel_rfl) rfl) n d hn hd _).mono ?_
  rintro e w1 ⟨rfl, hb⟩
  have HB := Lib.hid (bTr (bAl (Below.refl _ _) _) hb)
  go_wp2
  go_ret
  exact ⟨rfl, HB.out⟩
set_option maxHeartbeats 1000000 in
theorem round_any (n d : Int) (hn : I64 n) (hd : I64 d) (w : World) : Calls Try.prog 37 #[.agg #[.int .i64 n, .int .i64 d]] w fun e w' => e = .returned (.int .i64 (roundV ruleHalf n d)) ∧ Below w.heap.size w w' := by
  go_enter Try.func37, Try.ntmps37
  go_wp2_with fail
  refine (rounded_any 65 ruleHalf (fun o r d w => half_any o r d w) (enters_of Try.func65 (by kernel_rfl) rfl) n d hn hd _).mono ?_
  rintro e w1 ⟨rfl, hb⟩
  have HB := Lib.hid (bTr (bAl (Below.refl _ _) _) hb)
  go_wp2
  go_ret
  exact ⟨rfl, HB.out⟩
set_option maxHeartbeats 1000000 in
theorem evens_any (n d : Int) (hn : I64 n) (hd : I64 d) (w : World) : Calls Try.prog 38 #[.agg #[.int .i64 n, .int .i64 d]] w fun e w' => e = .returned (.int .i64 (roundV ruleEven n d)) ∧ Below w.heap.size w w' := by
  go_enter Try.func38, Try.ntmps38
  go_wp2_with fail
  refine (rounded_any 66 ruleEven (fun o r d w => even_any o r d w) (enters_of Try.func66 (by kernel_rfl) rfl) n d hn hd _).mono ?_
  rintro e w1 ⟨rfl, hb⟩
  have HB := Lib.hid (bTr (bAl (Below.refl _ _) _) hb)
  go_wp2
  go_ret
  exact ⟨rfl, HB.out⟩
end Go.Proofs.Ytlmakfeeecbhoaa
