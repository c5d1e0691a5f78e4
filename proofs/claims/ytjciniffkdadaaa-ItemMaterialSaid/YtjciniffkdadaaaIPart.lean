/-
  Valid parts: the program's and the reference's test.
-/
import Derived.Test.YtjciniffkdadaaaIRow
import Derived.LoopN
namespace Go.Proofs.Ytjciniffkdadaaa
open Go.RowKit
set_option linter.unusedSimpArgs false
set_option linter.unusedVariables false

set_option maxHeartbeats 1000000 in
theorem within_any (n a b : Int) (w : World) :
    Calls Try.prog 36 #[.int .i64 n, .int .i64 a, .int .i64 b] w fun e w' => e = .returned (.bool (decide (a ≤ n ∧ n ≤ b))) ∧ w' = w := by
  by_cases h1 : a ≤ n
  · by_cases h2 : n ≤ b
    · rw [decide_eq_true ⟨h1, h2⟩]
      go_enter Try.func36, Try.ntmps36
      go_wp2_with fail
      go_ret
      exact ⟨retB (by simp [h1, h2]), rfl⟩
    · rw [decide_eq_false (fun h => h2 h.2)]
      go_enter Try.func36, Try.ntmps36
      go_wp2_with fail
      go_ret
      exact ⟨retB (by simp [h1, h2]), rfl⟩
  · rw [decide_eq_false (fun h => h1 h.1)]
    go_enter Try.func36, Try.ntmps36
    go_wp2_with fail
    go_ret
    exact ⟨retB (by simp [h1]), rfl⟩
def ptC (p : Pt) : Array Value := #[.int .i64 p.kd, .int .i64 p.mx, .int .i64 p.tp, .int .i64 p.ob, .int .i64 p.op, .int .i64 p.ky]
theorem within_yes {n a b : Int} (h : a ≤ n ∧ n ≤ b) (w : World) : Calls Try.prog 36 #[.int .i64 n, .int .i64 a, .int .i64 b] w fun e w' => e = .returned (.bool true) ∧ w' = w :=
  (within_any n a b w).mono fun e w' ⟨he, hw⟩ => ⟨by rw [he, decide_eq_true h], hw⟩
theorem within_no {n a b : Int} (h : ¬ (a ≤ n ∧ n ≤ b)) (w : World) : Calls Try.prog 36 #[.int .i64 n, .int .i64 a, .int .i64 b] w fun e w' => e = .returned (.bool false) ∧ w' = w :=
  (within_any n a b w).mono fun e w' ⟨he, hw⟩ => ⟨by rw [he, decide_eq_false h], hw⟩
set_option maxHeartbeats 2000000 in
theorem fits_any (p : Pt) (w : World) :
    Calls Try.prog 37 #[.agg (ptC p)] w fun e w' => e = .returned (.bool (decide p.fit)) ∧ Below w.heap.size w w' := by
  obtain ⟨kd, mx, tp, ob, op, ky⟩ := p
  have HB := Lib.hid (bAl (Below.refl _ w) (.cells (ptC ⟨kd, mx, tp, ob, op, ky⟩) 23))
  unfold ptC at HB ⊢
  unfold Pt.fit
  dsimp only at HB ⊢
  by_cases h1 : kd = 1
  · have e1 : (kd == 1) = true := by rw [h1]; rfl
    by_cases h2 : op = 0
    · by_cases h3 : ky = 0
      · have HF := Lib.hid (show decide ((kd = 1 ∧ op = 0 ∧ ky = 0) ∨ (kd = 2 ∧ 2 ≤ op ∧ op ≤ 5 ∧ 0 ≤ ky ∧ ky < op)) = true from decide_eq_true (by omega))
        rw [HF.out]
        clear HF h1
        subst h2
        subst h3
        go_enter Try.func37, Try.ntmps37
        go_wp2_with fail
        go_ret
        exact ⟨rfl, HB.out⟩
      · have HF := Lib.hid (show decide ((kd = 1 ∧ op = 0 ∧ ky = 0) ∨ (kd = 2 ∧ 2 ≤ op ∧ op ≤ 5 ∧ 0 ≤ ky ∧ ky < op)) = false from decide_eq_false (by omega))
        have e3 : (ky == 0) = false := by rw [beq_eq_false_iff_ne]; exact h3
        rw [HF.out]
        clear HF h1 h3
        subst h2
        go_enter Try.func37, Try.ntmps37
        go_wp2_with fail
        go_ret
        exact ⟨retB (by first | rfl | exact e3 | simp), HB.out⟩
    · have HF := Lib.hid (show decide ((kd = 1 ∧ op = 0 ∧ ky = 0) ∨ (kd = 2 ∧ 2 ≤ op ∧ op ≤ 5 ∧ 0 ≤ ky ∧ ky < op)) = false from decide_eq_false (by omega))
      have e3 : (op == 0) = false := by rw [beq_eq_false_iff_ne]; exact h2
      rw [HF.out]
      clear HF h1 h2
      go_enter Try.func37, Try.ntmps37
      go_wp2_with fail
      go_ret
      exact ⟨rfl, HB.out⟩
  · have e1 : (kd == 1) = false := by rw [beq_eq_false_iff_ne]; exact h1
    by_cases h2 : kd = 2
    · have e2 : (kd == 2) = true := by rw [h2]; rfl
      by_cases h3 : 2 ≤ op ∧ op ≤ 5
      · have hwr : IntKind.i64.wrap (op - 1) = op - 1 := by rw [IntKind.wrap_i64]; omega
        have H1 := Lib.hid (within_yes (n := op) (a := 2) (b := 5) h3)
        by_cases h4 : 0 ≤ ky ∧ ky ≤ op - 1
        · have HF := Lib.hid (show decide ((kd = 1 ∧ op = 0 ∧ ky = 0) ∨ (kd = 2 ∧ 2 ≤ op ∧ op ≤ 5 ∧ 0 ≤ ky ∧ ky < op)) = true from decide_eq_true (by omega))
          have H2 := Lib.hid (within_yes (n := ky) (a := 0) (b := op - 1) h4)
          rw [HF.out]
          clear HF h1 h2 h3 h4
          go_enter Try.func37, Try.ntmps37
          go_wp2_with (go_at_call 36; first | (refine (H1.out _).mono ?_; rintro e w' ⟨rfl, hw'⟩; obtain rfl := hw'.symm; clear H1) | (refine (H2.out _).mono ?_; rintro e w' ⟨rfl, hw'⟩; obtain rfl := hw'.symm))
          go_ret
          exact ⟨rfl, HB.out⟩
        · have HF := Lib.hid (show decide ((kd = 1 ∧ op = 0 ∧ ky = 0) ∨ (kd = 2 ∧ 2 ≤ op ∧ op ≤ 5 ∧ 0 ≤ ky ∧ ky < op)) = false from decide_eq_false (by omega))
          have H2 := Lib.hid (within_no (n := ky) (a := 0) (b := op - 1) h4)
          rw [HF.out]
          clear HF h1 h2 h3 h4
          go_enter Try.func37, Try.ntmps37
          go_wp2_with (go_at_call 36; first | (refine (H1.out _).mono ?_; rintro e w' ⟨rfl, hw'⟩; obtain rfl := hw'.symm; clear H1) | (refine (H2.out _).mono ?_; rintro e w' ⟨rfl, hw'⟩; obtain rfl := hw'.symm))
          go_ret
          exact ⟨rfl, HB.out⟩
      · have HF := Lib.hid (show decide ((kd = 1 ∧ op = 0 ∧ ky = 0) ∨ (kd = 2 ∧ 2 ≤ op ∧ op ≤ 5 ∧ 0 ≤ ky ∧ ky < op)) = false from decide_eq_false (by omega))
        have H1 := Lib.hid (within_no (n := op) (a := 2) (b := 5) h3)
        rw [HF.out]
        clear HF h1 h2 h3
        go_enter Try.func37, Try.ntmps37
        go_wp2_with (go_at_call 36; (refine (H1.out _).mono ?_; rintro e w' ⟨rfl, hw'⟩; obtain rfl := hw'.symm))
        go_ret
        exact ⟨rfl, HB.out⟩
    · have HF := Lib.hid (show decide ((kd = 1 ∧ op = 0 ∧ ky = 0) ∨ (kd = 2 ∧ 2 ≤ op ∧ op ≤ 5 ∧ 0 ≤ ky ∧ ky < op)) = false from decide_eq_false (by omega))
      have e2 : (kd == 2) = false := by rw [beq_eq_false_iff_ne]; exact h2
      rw [HF.out]
      clear HF h1 h2
      go_enter Try.func37, Try.ntmps37
      go_wp2_with fail
      go_ret
      exact ⟨rfl, HB.out⟩
set_option maxHeartbeats 2000000 in
theorem valid_any (p : Pt) (w : World) :
    Calls Try.prog 12 #[.agg (ptC p)] w fun e w' => e = .returned (.bool p.okB) ∧ Below w.heap.size w w' := by
  have HB := Lib.hid (bAl (Below.refl _ w) (.cells (ptC p) 23))
  have HK := Lib.hid (fun W => fits_any p W)
  have HOK := Lib.hid (show p.okB = true ↔ ((1 ≤ p.mx ∧ p.mx ≤ 40) ∧ (0 ≤ p.tp ∧ p.tp ≤ 15) ∧ (0 ≤ p.ob ∧ p.ob ≤ 5) ∧ p.fit) by
    refine (decide_eq_true_iff (p := p.ok)).trans ?_
    unfold Pt.ok
    constructor
    · rintro ⟨h, hf⟩; exact ⟨by omega, by omega, by omega, hf⟩
    · rintro ⟨h1, h2, h3, hf⟩; exact ⟨by omega, hf⟩)
  generalize p.okB = r at HOK ⊢
  unfold ptC at HB HK ⊢
  have HFT := Lib.hid (show decide p.fit = true ↔ p.fit from decide_eq_true_iff)
  generalize decide p.fit = q at HK HFT
  by_cases h1 : 1 ≤ p.mx ∧ p.mx ≤ 40
  · have H1 := Lib.hid (within_yes h1)
    by_cases h2 : 0 ≤ p.tp ∧ p.tp ≤ 15
    · have H2 := Lib.hid (within_yes h2)
      by_cases h3 : 0 ≤ p.ob ∧ p.ob ≤ 5
      · have H3 := Lib.hid (within_yes h3)
        have HF := Lib.hid (show q = r by
          have h1 := HOK.out
          have h2 := HFT.out
          cases q <;> cases r <;> simp_all)
        clear h1 h2 h3 HOK HFT
        go_enter Try.func12, Try.ntmps12
        go_wp2_with (first | (go_at_call 36; first | (refine (H1.out _).mono ?_; rintro e w' ⟨rfl, hw'⟩; obtain rfl := hw'.symm; clear H1) | (refine (H2.out _).mono ?_; rintro e w' ⟨rfl, hw'⟩; obtain rfl := hw'.symm; clear H2) | (refine (H3.out _).mono ?_; rintro e w' ⟨rfl, hw'⟩; obtain rfl := hw'.symm; clear H3)) | (go_at_call 37; refine (HK.out _).mono ?_; rintro e w5 ⟨rfl, hb⟩; have HB5 := Lib.hid (bTr HB.out hb); clear hb))
        go_ret
        exact ⟨retB HF.out, HB5.out⟩
      · have H3 := Lib.hid (within_no h3)
        have HF := Lib.hid (show false = r by
          cases r with | false => rfl | true => exact absurd (HOK.out.1 rfl).2.2.1 h3)
        clear h1 h2 h3 HOK HFT
        go_enter Try.func12, Try.ntmps12
        go_wp2_with (first | (go_at_call 36; first | (refine (H1.out _).mono ?_; rintro e w' ⟨rfl, hw'⟩; obtain rfl := hw'.symm; clear H1) | (refine (H2.out _).mono ?_; rintro e w' ⟨rfl, hw'⟩; obtain rfl := hw'.symm; clear H2) | (refine (H3.out _).mono ?_; rintro e w' ⟨rfl, hw'⟩; obtain rfl := hw'.symm; clear H3)))
        go_ret
        exact ⟨retB HF.out, HB.out⟩
    · have H2 := Lib.hid (within_no h2)
      have HF := Lib.hid (show false = r by
        cases r with | false => rfl | true => exact absurd (HOK.out.1 rfl).2.1 h2)
      clear h1 h2 HOK HFT
      go_enter Try.func12, Try.ntmps12
      go_wp2_with (first | (go_at_call 36; first | (refine (H1.out _).mono ?_; rintro e w' ⟨rfl, hw'⟩; obtain rfl := hw'.symm; clear H1) | (refine (H2.out _).mono ?_; rintro e w' ⟨rfl, hw'⟩; obtain rfl := hw'.symm; clear H2)))
      go_ret
      exact ⟨retB HF.out, HB.out⟩
  · have H1 := Lib.hid (within_no h1)
    have HF := Lib.hid (show false = r by
      cases r with | false => rfl | true => exact absurd (HOK.out.1 rfl).1 h1)
    clear h1 HOK HFT
    go_enter Try.func12, Try.ntmps12
    go_wp2_with (first | (go_at_call 36; (refine (H1.out _).mono ?_; rintro e w' ⟨rfl, hw'⟩; obtain rfl := hw'.symm; clear H1)))
    go_ret
    exact ⟨retB HF.out, HB.out⟩
set_option maxHeartbeats 2000000 in
theorem rvalid_any (p : Pt) (w : World) :
    Calls Try.prog 13 #[.agg (ptC p)] w fun e w' => e = .returned (.bool p.okB) ∧ Below w.heap.size w w' := by
  have HB := Lib.hid (bAl (Below.refl _ w) (.cells (ptC p) 23))
  have HOK := Lib.hid (show p.okB = true ↔ ((1 ≤ p.mx ∧ p.mx ≤ 40 ∧ 0 ≤ p.tp ∧ p.tp ≤ 15 ∧ 0 ≤ p.ob ∧ p.ob ≤ 5) ∧ ((p.kd = 1 ∧ p.op = 0 ∧ p.ky = 0) ∨ (p.kd = 2 ∧ 2 ≤ p.op ∧ p.op ≤ 5 ∧ 0 ≤ p.ky ∧ p.ky < p.op))) from decide_eq_true_iff)
  generalize p.okB = r at HOK ⊢
  obtain ⟨kd, mx, tp, ob, op, ky⟩ := p
  unfold ptC at HB ⊢
  dsimp only at HB HOK ⊢
  by_cases hc : 1 ≤ mx ∧ mx ≤ 40 ∧ 0 ≤ tp ∧ tp ≤ 15 ∧ 0 ≤ ob ∧ ob ≤ 5
  · have HQ := Lib.hid (show r = true ↔ ((kd = 1 ∧ op = 0 ∧ ky = 0) ∨ (kd = 2 ∧ 2 ≤ op ∧ op ≤ 5 ∧ 0 ≤ ky ∧ ky < op)) from HOK.out.trans ⟨fun h => h.2, fun h => ⟨hc, h⟩⟩)
    clear HOK
    obtain ⟨a1, a2, a3, a4, a5, a6⟩ := hc
    have b1 : ¬ mx < 1 := by omega
    have b2 : ¬ 40 < mx := by omega
    have b3 : ¬ tp < 0 := by omega
    have b4 : ¬ 16 ≤ tp := by omega
    have b5 : ¬ ob < 0 := by omega
    have b6 : ¬ 6 ≤ ob := by omega
    clear a1 a2 a3 a4 a5 a6
    by_cases h1 : kd = 1
    · have e1 : (kd == 1) = true := by rw [h1]; rfl
      have HF := Lib.hid (show r = true ↔ (op = 0 ∧ ky = 0) from HQ.out.trans (by omega))
      clear h1 HQ
      go_enter Try.func13, Try.ntmps13
      go_wp2_with fail
      all_goals
        go_ret
        refine ⟨retB ?_, bAl (Below.refl _ _) _⟩
        have h := HF.out
        apply Bool.eq_iff_iff.2
        rw [h]
        simp
        try omega
    · have e1 : (kd == 1) = false := by rw [beq_eq_false_iff_ne]; exact h1
      have HF := Lib.hid (show r = true ↔ (kd = 2 ∧ 2 ≤ op ∧ op ≤ 5 ∧ 0 ≤ ky ∧ ky < op) from HQ.out.trans (by omega))
      clear h1 HQ
      go_enter Try.func13, Try.ntmps13
      go_wp2_with fail
      all_goals
        go_ret
        refine ⟨retB ?_, bAl (Below.refl _ _) _⟩
        have h := HF.out
        apply Bool.eq_iff_iff.2
        rw [h]
        simp
        try omega
  · have HF := Lib.hid (show r = false by cases r with | false => rfl | true => exact absurd (HOK.out.1 rfl).1 hc)
    clear HOK
    have hcases : mx < 1 ∨ (¬ mx < 1 ∧ 40 < mx) ∨ (¬ mx < 1 ∧ ¬ 40 < mx ∧ tp < 0) ∨ (¬ mx < 1 ∧ ¬ 40 < mx ∧ ¬ tp < 0 ∧ 16 ≤ tp) ∨ (¬ mx < 1 ∧ ¬ 40 < mx ∧ ¬ tp < 0 ∧ ¬ 16 ≤ tp ∧ ob < 0) ∨ (¬ mx < 1 ∧ ¬ 40 < mx ∧ ¬ tp < 0 ∧ ¬ 16 ≤ tp ∧ ¬ ob < 0 ∧ 6 ≤ ob) := by omega
    clear hc
    rcases hcases with h1 | ⟨h1, h2⟩ | ⟨h1, h2, h3⟩ | ⟨h1, h2, h3, h4⟩ | ⟨h1, h2, h3, h4, h5⟩ | ⟨h1, h2, h3, h4, h5, h6⟩
    all_goals
      go_enter Try.func13, Try.ntmps13
      go_wp2_with fail
      go_ret
      exact ⟨retB HF.out.symm, HB.out⟩
end Go.Proofs.Ytjciniffkdadaaa
