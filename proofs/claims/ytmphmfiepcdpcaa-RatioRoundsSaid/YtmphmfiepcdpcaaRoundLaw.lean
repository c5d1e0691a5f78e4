/-
  Contracts of the reference's rounding, and the walk of the statement on rounding.
-/
import Derived.Test.YtmphmfiepcdpcaaRound
namespace Go.Proofs.Ytmphmfiepcdpcaa
open Go.RowKit
set_option linter.unusedVariables false

theorem r_floor (n d : Int) (d0 : 1 ≤ d) (d1 : d ≤ 2305843009213693952) (n0 : -4611686018427387904 ≤ n) (n1 : n ≤ 4611686018427387904) (w : World) :
    Calls Try.prog 81 #[.int .i64 n, .int .i64 d] w fun e w' => e = .returned (.int .i64 (n / d)) ∧ w = w' := by
  obtain ⟨m0, m1, _⟩ := tmod_facts n d d0
  have hq := tdiv_facts n d d0
  have tb : -4611686018427387904 ≤ n.tdiv d ∧ n.tdiv d ≤ 4611686018427387904 := by
    have := Int.natAbs_tdiv_le_natAbs n d
    omega
  obtain ⟨t0, t1⟩ := tb
  obtain ⟨T, hT⟩ : ∃ T, n.tdiv d = T := ⟨_, rfl⟩
  obtain ⟨M, hM⟩ : ∃ M, n.tmod d = M := ⟨_, rfl⟩
  rw [hM] at m0 m1 hq
  rw [hT] at t0 t1 hq
  have hdz : (d == 0) = false := by rw [beq_eq_false_iff_ne]; omega
  by_cases hneg : M < 0
  · rw [if_pos hneg] at hq
    have H := Lib.hid hq
    clear hq
    go_enter Try.func81, Try.ntmps81
    go_wp2
    go_ret
    exact ⟨ret_int H.out.symm, rfl⟩
  · rw [if_neg hneg] at hq
    have H := Lib.hid hq
    clear hq
    go_enter Try.func81, Try.ntmps81
    go_wp2
    go_ret
    exact ⟨ret_int H.out.symm, rfl⟩

theorem up_math (n d : Int) (d0 : 1 ≤ d) : -((-n) / d) = if ruleUp (oddB (n / d)) (n % d) d then n / d + 1 else n / d := by
  have b := Int.mul_ediv_add_emod n d
  have c := Int.emod_nonneg n (show d ≠ 0 by omega)
  have e := Int.emod_lt_of_pos n (show 0 < d by omega)
  unfold ruleUp
  by_cases h : 0 < n % d
  · rw [decide_eq_true h, if_pos rfl]
    have : -n = (d - n % d) + d * (-(n / d) - 1) := by rw [Int.mul_sub, Int.mul_neg]; omega
    rw [this, Int.add_mul_ediv_left _ _ (by omega), Int.ediv_eq_zero_of_lt (by omega) (by omega)]
    omega
  · rw [decide_eq_false h, if_neg (by decide)]
    have : -n = 0 + d * (-(n / d)) := by rw [Int.mul_neg]; omega
    rw [this, Int.add_mul_ediv_left _ _ (by omega), Int.zero_ediv]
    omega
theorem half_math (n d : Int) (d0 : 1 ≤ d) : (2 * n + d) / (2 * d) = if ruleHalf (oddB (n / d)) (n % d) d then n / d + 1 else n / d := by
  have b := Int.mul_ediv_add_emod n d
  have c := Int.emod_nonneg n (show d ≠ 0 by omega)
  have e := Int.emod_lt_of_pos n (show 0 < d by omega)
  unfold ruleHalf
  by_cases h : d - n % d ≤ n % d
  · rw [decide_eq_true h, if_pos rfl]
    have : 2 * n + d = (2 * (n % d) - d) + 2 * d * (n / d + 1) := by rw [Int.mul_assoc, Int.mul_add]; omega
    rw [this, Int.add_mul_ediv_left _ _ (by omega), Int.ediv_eq_zero_of_lt (by omega) (by omega)]
    omega
  · rw [decide_eq_false h, if_neg (by decide)]
    have : 2 * n + d = (2 * (n % d) + d) + 2 * d * (n / d) := by rw [Int.mul_assoc]; omega
    rw [this, Int.add_mul_ediv_left _ _ (by omega), Int.ediv_eq_zero_of_lt (by omega) (by omega)]
    omega
theorem quo_bd (n d : Int) (d0 : 1 ≤ d) (n0 : -1152921504606846976 ≤ n) (n1 : n ≤ 1152921504606846976) : -1152921504606846976 ≤ n / d ∧ n / d ≤ 1152921504606846976 := by
  obtain ⟨t0, t1⟩ := tdiv_bd n d d0 n0 n1
  have b := Int.mul_ediv_add_emod n d
  have hq := tdiv_facts n d d0
  have c := Int.emod_nonneg n (show d ≠ 0 by omega)
  constructor
  · rcases Int.lt_trichotomy (n / d) (-1152921504606846976) with h | h | h
    · exfalso
      have : d * (n / d) ≤ d * (-1152921504606846977) := Int.mul_le_mul_of_nonneg_left (by omega) (by omega)
      have e := Int.emod_lt_of_pos n (show 0 < d by omega)
      omega
    · omega
    · omega
  · split at hq <;> omega
theorem valid_parts {n d : Int} (h : Frac.valid n d = true) : 1 ≤ d ∧ d ≤ 1152921504606846976 ∧ -1152921504606846976 ≤ n ∧ n ≤ 1152921504606846976 := by
  unfold Frac.valid at h
  simp only [Bool.and_eq_true, decide_eq_true_eq] at h
  omega
theorem roundV_no (R : Bool → Int → Int → Bool) (n d : Int) (h : Frac.valid n d = false) : 0 = roundV R n d := by unfold roundV; rw [h]; rfl

set_option maxHeartbeats 1000000 in
theorem r_floorR (n d : Int) (hn : I64 n) (hd : I64 d) (w : World) : Calls Try.prog 46 #[.agg #[.int .i64 n, .int .i64 d]] w fun e w' => e = .returned (.int .i64 (roundV ruleDown n d)) ∧ Below w.heap.size w w' := by
  obtain ⟨n0, n1⟩ := hn
  obtain ⟨d0, d1⟩ := hd
  cases hv : Frac.valid n d
  · have H := Lib.hid (roundV_no ruleDown n d hv)
    go_enter Try.func46, Try.ntmps46
    go_wp2_with fail
    refine (r_valid _ _ n0 n1 d0 d1 _).mono ?_
    rintro e w1 ⟨rfl, hb⟩
    go_wp2
    go_ret
    exact ⟨ret_int H.out, bTr (bAl (Below.refl _ _) _) hb⟩
  obtain ⟨v1, v2, v3, v4⟩ := valid_parts hv
  have H := Lib.hid (show n / d = roundV ruleDown n d by unfold roundV; rw [hv]; rfl)
  go_enter Try.func46, Try.ntmps46
  go_wp2_with fail
  refine (r_valid _ _ n0 n1 d0 d1 _).mono ?_
  rintro e w1 ⟨rfl, hb⟩
  rw [hv]
  have PB := (Blk.newAt (w := w) (t := 23) (cs := #[.int .i64 n, .int .i64 d]) rfl).later hb
  obtain ⟨⟨c0, c1⟩, ⟨f0, f1⟩, k⟩ := PB.two
  have HB := Lib.hid (bTr (bAl (Below.refl _ _) _) hb)
  clear PB hb hv
  go_wp2_with fail
  refine (r_floor n d v1 (by omega) (by omega) (by omega) _).mono ?_
  rintro e w2 ⟨rfl, rfl⟩
  go_wp2
  go_ret
  exact ⟨ret_int H.out, HB.out⟩

set_option maxHeartbeats 1000000 in
theorem r_ceilR (n d : Int) (hn : I64 n) (hd : I64 d) (w : World) : Calls Try.prog 48 #[.agg #[.int .i64 n, .int .i64 d]] w fun e w' => e = .returned (.int .i64 (roundV ruleUp n d)) ∧ Below w.heap.size w w' := by
  obtain ⟨n0, n1⟩ := hn
  obtain ⟨d0, d1⟩ := hd
  cases hv : Frac.valid n d
  · have H := Lib.hid (roundV_no ruleUp n d hv)
    go_enter Try.func48, Try.ntmps48
    go_wp2_with fail
    refine (r_valid _ _ n0 n1 d0 d1 _).mono ?_
    rintro e w1 ⟨rfl, hb⟩
    go_wp2
    go_ret
    exact ⟨ret_int H.out, bTr (bAl (Below.refl _ _) _) hb⟩
  obtain ⟨v1, v2, v3, v4⟩ := valid_parts hv
  have H := Lib.hid (show -((-n) / d) = roundV ruleUp n d by unfold roundV; rw [hv, up_math n d v1]; rfl)
  have qb := quo_bd (-n) d v1 (by omega) (by omega)
  obtain ⟨q0, q1⟩ := qb
  go_enter Try.func48, Try.ntmps48
  go_wp2_with fail
  refine (r_valid _ _ n0 n1 d0 d1 _).mono ?_
  rintro e w1 ⟨rfl, hb⟩
  rw [hv]
  have PB := (Blk.newAt (w := w) (t := 23) (cs := #[.int .i64 n, .int .i64 d]) rfl).later hb
  obtain ⟨⟨c0, c1⟩, ⟨f0, f1⟩, k⟩ := PB.two
  have HB := Lib.hid (bTr (bAl (Below.refl _ _) _) hb)
  clear PB hb hv
  go_wp2_with fail
  refine (r_floor (-n) d v1 (by omega) (by omega) (by omega) _).mono ?_
  rintro e w2 ⟨rfl, rfl⟩
  go_wp2
  go_ret
  exact ⟨ret_int H.out, HB.out⟩

set_option maxHeartbeats 1000000 in
theorem r_roundR (n d : Int) (hn : I64 n) (hd : I64 d) (w : World) : Calls Try.prog 50 #[.agg #[.int .i64 n, .int .i64 d]] w fun e w' => e = .returned (.int .i64 (roundV ruleHalf n d)) ∧ Below w.heap.size w w' := by
  obtain ⟨n0, n1⟩ := hn
  obtain ⟨d0, d1⟩ := hd
  cases hv : Frac.valid n d
  · have H := Lib.hid (roundV_no ruleHalf n d hv)
    go_enter Try.func50, Try.ntmps50
    go_wp2_with fail
    refine (r_valid _ _ n0 n1 d0 d1 _).mono ?_
    rintro e w1 ⟨rfl, hb⟩
    go_wp2
    go_ret
    exact ⟨ret_int H.out, bTr (bAl (Below.refl _ _) _) hb⟩
  obtain ⟨v1, v2, v3, v4⟩ := valid_parts hv
  have H := Lib.hid (show (2 * n + d) / (2 * d) = roundV ruleHalf n d by unfold roundV; rw [hv, half_math n d v1]; rfl)
  go_enter Try.func50, Try.ntmps50
  go_wp2_with fail
  refine (r_valid _ _ n0 n1 d0 d1 _).mono ?_
  rintro e w1 ⟨rfl, hb⟩
  rw [hv]
  have PB := (Blk.newAt (w := w) (t := 23) (cs := #[.int .i64 n, .int .i64 d]) rfl).later hb
  obtain ⟨⟨c0, c1⟩, ⟨f0, f1⟩, k⟩ := PB.two
  have HB := Lib.hid (bTr (bAl (Below.refl _ _) _) hb)
  clear PB hb hv
  go_wp2_with fail
  refine (r_floor (2 * n + d) (2 * d) (by omega) (by omega) (by omega) (by omega) _).mono ?_
  rintro e w2 ⟨rfl, rfl⟩
  go_wp2
  go_ret
  exact ⟨ret_int H.out, HB.out⟩

set_option maxHeartbeats 1000000 in
theorem r_evenR (n d : Int) (hn : I64 n) (hd : I64 d) (w : World) : Calls Try.prog 52 #[.agg #[.int .i64 n, .int .i64 d]] w fun e w' => e = .returned (.int .i64 (roundV ruleEven n d)) ∧ Below w.heap.size w w' := by
  obtain ⟨n0, n1⟩ := hn
  obtain ⟨d0, d1⟩ := hd
  cases hv : Frac.valid n d
  · have H := Lib.hid (roundV_no ruleEven n d hv)
    go_enter Try.func52, Try.ntmps52
    go_wp2_with fail
    refine (r_valid _ _ n0 n1 d0 d1 _).mono ?_
    rintro e w1 ⟨rfl, hb⟩
    go_wp2
    go_ret
    exact ⟨ret_int H.out, bTr (bAl (Below.refl _ _) _) hb⟩
  obtain ⟨v1, v2, v3, v4⟩ := valid_parts hv
  have HR : (if ruleEven (oddB (n / d)) (n % d) d then n / d + 1 else n / d) = roundV ruleEven n d := by unfold roundV; rw [hv]; rfl
  obtain ⟨q0, q1⟩ := quo_bd n d v1 v3 v4
  have b := Int.mul_ediv_add_emod n d
  have r0 := Int.emod_nonneg n (show d ≠ 0 by omega)
  have r1 := Int.emod_lt_of_pos n (show 0 < d by omega)
  obtain ⟨q, hq⟩ : ∃ q, n / d = q := ⟨_, rfl⟩
  obtain ⟨r, hr⟩ : ∃ r, n % d = r := ⟨_, rfl⟩
  rw [hq, hr] at HR
  rw [hq] at q0 q1
  rw [hr] at r0 r1
  rw [hq, hr, Int.mul_comm] at b
  have HQ := Lib.hid hq
  have p0 : -2305843009213693952 ≤ q * d := by omega
  have p1 : q * d ≤ 2305843009213693952 := by omega
  have hs : n - q * d = r := by omega
  clear b hq hr
  by_cases h1 : d - r < r
  · have H : Hid (q + 1 = roundV ruleEven n d) := by rw [← HR]; unfold ruleEven; rw [decide_eq_true h1]; rfl
    have t1 : decide (2 * r > d) = true := decide_eq_true (by omega)
    clear HR
    go_enter Try.func52, Try.ntmps52
    go_wp2_with fail
    refine (r_valid _ _ n0 n1 d0 d1 _).mono ?_
    rintro e w1 ⟨rfl, hb⟩
    rw [hv]
    have PB := (Blk.newAt (w := w) (t := 23) (cs := #[.int .i64 n, .int .i64 d]) rfl).later hb
    obtain ⟨⟨c0, c1⟩, ⟨f0, f1⟩, k⟩ := PB.two
    have HB := Lib.hid (bTr (bAl (Below.refl _ _) _) hb)
    clear PB hb hv
    go_wp2_with fail
    refine (r_floor n d v1 (by omega) (by omega) (by omega) _).mono ?_
    rintro e w2 ⟨rfl, rfl⟩
    rw [HQ.out]
    go_wp2
    go_ret
    exact ⟨ret_int H.out, HB.out⟩
  · by_cases h2 : r = d - r
    · have t1 : decide (2 * r > d) = false := decide_eq_false (by omega)
      have t2 : (2 * r == d) = true := by rw [beq_iff_eq]; omega
      have t3 : (r == d - r) = true := by rw [beq_iff_eq]; exact h2
      cases ho : (q.tmod 2 != 0)
      · have H : Hid (q = roundV ruleEven n d) := by show _ = _; rw [← HR]; unfold ruleEven oddB; rw [decide_eq_false h1, t3, ho]; rfl
        clear HR h2 t3
        go_enter Try.func52, Try.ntmps52
        go_wp2_with fail
        refine (r_valid _ _ n0 n1 d0 d1 _).mono ?_
        rintro e w1 ⟨rfl, hb⟩
        rw [hv]
        have PB := (Blk.newAt (w := w) (t := 23) (cs := #[.int .i64 n, .int .i64 d]) rfl).later hb
        obtain ⟨⟨c0, c1⟩, ⟨f0, f1⟩, k⟩ := PB.two
        have HB := Lib.hid (bTr (bAl (Below.refl _ _) _) hb)
        clear PB hb hv
        go_wp2_with fail
        refine (r_floor n d v1 (by omega) (by omega) (by omega) _).mono ?_
        rintro e w2 ⟨rfl, rfl⟩
        rw [HQ.out]
        go_wp2
        go_ret
        exact ⟨ret_int H.out, HB.out⟩
      · have H : Hid (q + 1 = roundV ruleEven n d) := by show _ = _; rw [← HR]; unfold ruleEven oddB; rw [decide_eq_false h1, t3, ho]; rfl
        clear HR h2 t3
        go_enter Try.func52, Try.ntmps52
        go_wp2_with fail
        refine (r_valid _ _ n0 n1 d0 d1 _).mono ?_
        rintro e w1 ⟨rfl, hb⟩
        rw [hv]
        have PB := (Blk.newAt (w := w) (t := 23) (cs := #[.int .i64 n, .int .i64 d]) rfl).later hb
        obtain ⟨⟨c0, c1⟩, ⟨f0, f1⟩, k⟩ := PB.two
        have HB := Lib.hid (bTr (bAl (Below.refl _ _) _) hb)
        clear PB hb hv
        go_wp2_with fail
        refine (r_floor n d v1 (by omega) (by omega) (by omega) _).mono ?_
        rintro e w2 ⟨rfl, rfl⟩
        rw [HQ.out]
        go_wp2
        go_ret
        exact ⟨ret_int H.out, HB.out⟩
    · have t1 : decide (2 * r > d) = false := decide_eq_false (by omega)
      have t2 : (2 * r == d) = false := by rw [beq_eq_false_iff_ne]; omega
      have t3 : (r == d - r) = false := by rw [beq_eq_false_iff_ne]; exact h2
      have H : Hid (q = roundV ruleEven n d) := by show _ = _; rw [← HR]; unfold ruleEven; rw [decide_eq_false h1, t3]; rfl
      clear HR t3
      go_enter Try.func52, Try.ntmps52
      go_wp2_with fail
      refine (r_valid _ _ n0 n1 d0 d1 _).mono ?_
      rintro e w1 ⟨rfl, hb⟩
      rw [hv]
      have PB := (Blk.newAt (w := w) (t := 23) (cs := #[.int .i64 n, .int .i64 d]) rfl).later hb
      obtain ⟨⟨c0, c1⟩, ⟨f0, f1⟩, k⟩ := PB.two
      have HB := Lib.hid (bTr (bAl (Below.refl _ _) _) hb)
      clear PB hb hv
      go_wp2_with fail
      refine (r_floor n d v1 (by omega) (by omega) (by omega) _).mono ?_
      rintro e w2 ⟨rfl, rfl⟩
      rw [HQ.out]
      go_wp2
      go_ret
      exact ⟨ret_int H.out, HB.out⟩
end Go.Proofs.Ytmphmfiepcdpcaa
