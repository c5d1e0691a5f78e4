/-
  Contracts of the reference's Valid, Compare, disputes and before.
-/
import Derived.Test.YtdggmnhddoejhaaStamp
namespace Go.Proofs.Ytdggmnhddoejhaa
open Go.RowKit
set_option linter.unusedSimpArgs false
set_option linter.unusedVariables false

theorem vld_no {t s q : Int} (h : ¬ 0 ≤ t ∨ ¬ t ≤ 1000000 ∨ ¬ 0 ≤ s ∨ ¬ s ≤ 99 ∨ ¬ 0 ≤ q ∨ ¬ q ≤ 9999) : false = vld (t, s, q) := by
  unfold vld; symm; simp only [Bool.and_eq_false_iff, decide_eq_false_iff_not]; omega
theorem vld_yes {t s q : Int} (h : 0 ≤ t ∧ t ≤ 1000000 ∧ 0 ≤ s ∧ s ≤ 99 ∧ 0 ≤ q ∧ q ≤ 9999) : true = vld (t, s, q) := by
  unfold vld; symm; simp only [Bool.and_eq_true, decide_eq_true_eq]; omega
set_option maxHeartbeats 1000000 in
theorem ref_valid (t s q : Int) (w : World) :
    Calls Try.prog 13 #[.agg #[.int .i64 t, .int .i64 s, .int .i64 q]] w fun e w' => e = .returned (.bool (vld (t, s, q))) ∧ Gro w w' := by
  by_cases h1 : 0 ≤ t
  · by_cases h2 : t ≤ 1000000
    · by_cases h3 : 0 ≤ s
      · by_cases h4 : s ≤ 99
        · by_cases h5 : 0 ≤ q
          · by_cases h6 : q ≤ 9999
            · have H := Lib.hid (vld_yes (t := t) (s := s) (q := q) (by omega))
              go_enter Try.func13, Try.ntmps13
              go_wp2
              go_ret
              exact ⟨ret_bool H.out, (Gro.refl w).alloc _⟩
            · have H := Lib.hid (vld_no (t := t) (s := s) (q := q) (by omega))
              have h6' := decide_eq_false h6
              go_enter Try.func13, Try.ntmps13
              go_wp2
              go_ret
              exact ⟨ret_bool H.out, (Gro.refl w).alloc _⟩
          · have H := Lib.hid (vld_no (t := t) (s := s) (q := q) (by omega))
            have h6' := decide_eq_false h5
            go_enter Try.func13, Try.ntmps13
            go_wp2
            go_ret
            exact ⟨ret_bool H.out, (Gro.refl w).alloc _⟩
        · have H := Lib.hid (vld_no (t := t) (s := s) (q := q) (by omega))
          have h6' := decide_eq_false h4
          go_enter Try.func13, Try.ntmps13
          go_wp2
          go_ret
          exact ⟨ret_bool H.out, (Gro.refl w).alloc _⟩
      · have H := Lib.hid (vld_no (t := t) (s := s) (q := q) (by omega))
        have h6' := decide_eq_false h3
        go_enter Try.func13, Try.ntmps13
        go_wp2
        go_ret
        exact ⟨ret_bool H.out, (Gro.refl w).alloc _⟩
    · have H := Lib.hid (vld_no (t := t) (s := s) (q := q) (by omega))
      have h6' := decide_eq_false h2
      go_enter Try.func13, Try.ntmps13
      go_wp2
      go_ret
      exact ⟨ret_bool H.out, (Gro.refl w).alloc _⟩
  · have H := Lib.hid (vld_no (t := t) (s := s) (q := q) (by omega))
    have h6' := decide_eq_false h1
    go_enter Try.func13, Try.ntmps13
    go_wp2
    go_ret
    exact ⟨ret_bool H.out, (Gro.refl w).alloc _⟩

theorem cmp3_a {t s q t' s' q' : Int} (h : cmpI t t' ≠ 0) : cmpI t t' = cmp3 (t, s, q) (t', s', q') := by unfold cmp3 orI; rw [if_neg h]
theorem cmp3_b {t s q t' s' q' : Int} (h : cmpI t t' = 0) (k : cmpI s s' ≠ 0) : cmpI s s' = cmp3 (t, s, q) (t', s', q') := by unfold cmp3 cmp2 orI; rw [if_pos h, if_neg k]
theorem cmp3_c {t s q t' s' q' : Int} (h : cmpI t t' = 0) (k : cmpI s s' = 0) : cmpI q q' = cmp3 (t, s, q) (t', s', q') := by unfold cmp3 cmp2 orI; rw [if_pos h, if_pos k]
set_option maxHeartbeats 1000000 in
theorem ref_compare (t s q t' s' q' : Int) (w : World) :
    Calls Try.prog 15 #[.agg #[.int .i64 t, .int .i64 s, .int .i64 q], .agg #[.int .i64 t', .int .i64 s', .int .i64 q']] w fun e w' =>
      e = .returned (.int .i64 (cmp3 (t, s, q) (t', s', q'))) ∧ Gro w w' := by
  by_cases h : cmpI t t' = 0
  · by_cases k : cmpI s s' = 0
    · have H := Lib.hid (cmp3_c (q := q) (q' := q') h k)
      go_enter Try.func15, Try.ntmps15
      go_wp2_with (go_at_call 36; refine (order_int _ _ _).mono ?_; rintro e w' ⟨rfl, rfl⟩)
      go_ret
      exact ⟨ret_int H.out, ((Gro.refl w).alloc _).alloc _⟩
    · have H := Lib.hid (cmp3_b (q := q) (q' := q') h k)
      have k' : (cmpI s s' == 0) = false := by rw [beq_eq_false_iff_ne]; exact k
      clear k
      go_enter Try.func15, Try.ntmps15
      go_wp2_with (go_at_call 36; refine (order_int _ _ _).mono ?_; rintro e w' ⟨rfl, rfl⟩)
      go_ret
      exact ⟨ret_int H.out, ((Gro.refl w).alloc _).alloc _⟩
  · have H := Lib.hid (cmp3_a (s := s) (q := q) (s' := s') (q' := q') h)
    have k' : (cmpI t t' == 0) = false := by rw [beq_eq_false_iff_ne]; exact h
    clear h
    go_enter Try.func15, Try.ntmps15
    go_wp2_with (go_at_call 36; refine (order_int _ _ _).mono ?_; rintro e w' ⟨rfl, rfl⟩)
    go_ret
    exact ⟨ret_int H.out, ((Gro.refl w).alloc _).alloc _⟩

theorem dis_1 {t s q t' s' q' x y : Int} (h : s ≠ s' ∨ q ≠ q') : false = dis (t, s, q) (t', s', q') x y := by
  symm; refine dis_far ?_; rw [Ne, Prod.ext_iff]; show ¬ (s = s' ∧ q = q'); omega
theorem dis_2 {t s q t' x y : Int} (h : t ≠ t' ∨ x ≠ y) : true = dis (t, s, q) (t', s, q) x y := by
  symm; unfold dis; simp; exact h
theorem dis_3 {t s q x : Int} : false = dis (t, s, q) (t, s, q) x x := by unfold dis; simp
set_option maxHeartbeats 1000000 in
theorem ref_disputes (t s q t' s' q' x y : Int) (w : World) :
    Calls Try.prog 44 #[.agg #[.int .i64 t, .int .i64 s, .int .i64 q], .agg #[.int .i64 t', .int .i64 s', .int .i64 q'], .int .i64 x, .int .i64 y] w fun e w' =>
      e = .returned (.bool (dis (t, s, q) (t', s', q') x y)) ∧ Gro w w' := by
  by_cases h1 : s = s'
  · subst h1
    by_cases h2 : q = q'
    · subst h2
      by_cases h3 : t = t'
      · subst h3
        by_cases h4 : x = y
        · subst h4
          have H := Lib.hid (dis_3 (t := t) (s := s) (q := q) (x := x))
          go_enter Try.func44, Try.ntmps44
          go_wp2
          go_ret
          exact ⟨ret_bool (by first | exact H.out | (rw [← H.out]; simp) | rw [← H.out]), ((Gro.refl w).alloc _).alloc _⟩
        · have H := Lib.hid (dis_2 (t := t) (s := s) (q := q) (t' := t) (x := x) (y := y) (.inr h4))
          have h' : (x != y) = true := by rw [bne_iff_ne]; exact h4
          have h'' : (x == y) = false := by rw [beq_eq_false_iff_ne]; exact h4
          clear h4
          go_enter Try.func44, Try.ntmps44
          go_wp2
          go_ret
          exact ⟨ret_bool (by first | exact H.out | (rw [← H.out]; simp) | rw [← H.out]), ((Gro.refl w).alloc _).alloc _⟩
      · have H := Lib.hid (dis_2 (t := t) (s := s) (q := q) (t' := t') (x := x) (y := y) (.inl h3))
        have h' : (t != t') = true := by rw [bne_iff_ne]; exact h3
        have h'' : (t == t') = false := by rw [beq_eq_false_iff_ne]; exact h3
        clear h3
        go_enter Try.func44, Try.ntmps44
        go_wp2
        go_ret
        exact ⟨ret_bool (by first | exact H.out | (rw [← H.out]; simp) | rw [← H.out]), ((Gro.refl w).alloc _).alloc _⟩
    · have H := Lib.hid (dis_1 (t := t) (s := s) (q := q) (t' := t') (s' := s) (q' := q') (x := x) (y := y) (.inr h2))
      have h'' : (q == q') = false := by rw [beq_eq_false_iff_ne]; exact h2
      clear h2
      go_enter Try.func44, Try.ntmps44
      go_wp2
      go_ret
      exact ⟨ret_bool (by first | exact H.out | (rw [← H.out]; simp) | rw [← H.out]), ((Gro.refl w).alloc _).alloc _⟩
  · have H := Lib.hid (dis_1 (t := t) (s := s) (q := q) (t' := t') (s' := s') (q' := q') (x := x) (y := y) (.inl h1))
    have h'' : (s == s') = false := by rw [beq_eq_false_iff_ne]; exact h1
    clear h1
    go_enter Try.func44, Try.ntmps44
    go_wp2
    go_ret
    exact ⟨ret_bool (by first | exact H.out | (rw [← H.out]; simp) | rw [← H.out]), ((Gro.refl w).alloc _).alloc _⟩
end Go.Proofs.Ytdggmnhddoejhaa
