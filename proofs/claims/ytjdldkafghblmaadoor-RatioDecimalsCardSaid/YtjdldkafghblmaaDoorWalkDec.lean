/-
  The walk of the statement on Decimal.
-/
import Derived.Test.YtjdldkafghblmaaDoorBkP
import Derived.Test.YtjdldkafghblmaaDoorBkR
namespace Go.Proofs.YtjdldkafghblmaaDoor
open Go.RowKit Go.Lib
set_option linter.unusedSimpArgs false
set_option linter.unusedVariables false

theorem decT_yes {N D g : Int} (h : Frac.valid N D = true) (h0 : 0 ≤ g) (h9 : g ≤ 9) : decT N D g = decL N D g.toNat := by unfold decT; rw [if_pos ⟨h, h0, h9⟩]
theorem decT_no {N D g : Int} (h : ¬ (Frac.valid N D = true ∧ 0 ≤ g ∧ g ≤ 9)) : decT N D g = [] := by unfold decT; rw [if_neg h]
set_option maxRecDepth 100000 in
set_option maxHeartbeats 2000000 in
theorem decimal_any (N D g : Int) (hN : I64 N) (hD : I64 D) (hg : I64 g) {w : World} (HT : Tab w) :
    Calls Tryd.prog 13 #[.agg #[.int .i64 N, .int .i64 D], .int .i64 g] w fun e w' => e = .returned (.string ⟨(decT N D g).toArray⟩) ∧ Below w.heap.size w w' := by
  by_cases h : Frac.valid N D = true ∧ 0 ≤ g ∧ g ≤ 9
  · obtain ⟨k, rfl⟩ := Int.eq_ofNat_of_zero_le h.2.1
    rw [decT_yes h.1 h.2.1 h.2.2, Int.toNat_natCast]
    exact decimal_yes N D k hN hD h.1 (by omega) HT
  · have HR := Lib.hid (decT_no h)
    have HV := Lib.hid (fun w => valid_any N D hN.1 hN.2 hD.1 hD.2 w)
    have B0 := Lib.hid (bAl (Below.refl w.heap.size w) (.cells #[.int .i64 N, .int .i64 D] 24))
    by_cases hv : Frac.valid N D = true
    · rw [hv] at HV
      have HG := Lib.hid (show g < 0 ∨ 9 < g by
        rcases Int.lt_or_le g 0 with h1 | h1
        · exact .inl h1
        · rcases Int.lt_or_le 9 g with h2 | h2
          · exact .inr h2
          · exact absurd ⟨hv, h1, h2⟩ h)
      clear hv h
      by_cases h0 : g < 0
      · have t0 : decide (g < 0) = true := decide_eq_true h0
        go_enter Tryd.func13, Tryd.ntmps13
        go_wp2_with fail
        refine (HV.out _).mono ?_
        rintro e w1 ⟨rfl, hb⟩
        have B1 := Lib.hid (bTr B0.out hb)
        clear hb
        go_wp2
        go_ret
        exact ⟨ret_str (by rw [HR.out]), B1.out⟩
      · have h9 : 9 < g := by rcases HG.out with h1 | h1 <;> omega
        have t0 : decide (g < 0) = false := decide_eq_false h0
        have t1 : decide (g > 9) = true := decide_eq_true h9
        go_enter Tryd.func13, Tryd.ntmps13
        go_wp2_with fail
        refine (HV.out _).mono ?_
        rintro e w1 ⟨rfl, hb⟩
        have B1 := Lib.hid (bTr B0.out hb)
        clear hb
        go_wp2
        go_ret
        exact ⟨ret_str (by rw [HR.out]), B1.out⟩
    · rw [show Frac.valid N D = false by simpa using hv] at HV
      clear hv h
      go_enter Tryd.func13, Tryd.ntmps13
      go_wp2_with fail
      refine (HV.out _).mono ?_
      rintro e w1 ⟨rfl, hb⟩
      have B1 := Lib.hid (bTr B0.out hb)
      clear hb
      go_wp2
      go_ret
      exact ⟨ret_str (by rw [HR.out]), B1.out⟩
set_option maxRecDepth 100000 in
set_option maxHeartbeats 2000000 in
theorem rdecimal_any (N D g : Int) (hN : I64 N) (hD : I64 D) (hg : I64 g) (w : World) :
    Calls Tryd.prog 14 #[.agg #[.int .i64 N, .int .i64 D], .int .i64 g] w fun e w' => e = .returned (.string ⟨(decT N D g).toArray⟩) ∧ Below w.heap.size w w' := by
  by_cases h : Frac.valid N D = true ∧ 0 ≤ g ∧ g ≤ 9
  · obtain ⟨k, rfl⟩ := Int.eq_ofNat_of_zero_le h.2.1
    rw [decT_yes h.1 h.2.1 h.2.2, Int.toNat_natCast]
    exact rdecimal_yes N D k hN hD h.1 (by omega) w
  · have HR := Lib.hid (decT_no h)
    have HV := Lib.hid (fun w => r_valid N D hN.1 hN.2 hD.1 hD.2 w)
    have B0 := Lib.hid (bAl (Below.refl w.heap.size w) (.cells #[.int .i64 N, .int .i64 D] 24))
    by_cases hv : Frac.valid N D = true
    · rw [hv] at HV
      have HG := Lib.hid (show g < 0 ∨ 9 < g by
        rcases Int.lt_or_le g 0 with h1 | h1
        · exact .inl h1
        · rcases Int.lt_or_le 9 g with h2 | h2
          · exact .inr h2
          · exact absurd ⟨hv, h1, h2⟩ h)
      clear hv h
      by_cases h0 : g < 0
      · have t0 : decide (g < 0) = true := decide_eq_true h0
        go_enter Tryd.func14, Tryd.ntmps14
        go_wp2_with fail
        refine (HV.out _).mono ?_
        rintro e w1 ⟨rfl, hb⟩
        have B1 := Lib.hid (bTr B0.out hb)
        clear hb
        go_wp2
        go_ret
        exact ⟨ret_str (by rw [HR.out]), B1.out⟩
      · have h9 : 9 < g := by rcases HG.out with h1 | h1 <;> omega
        have t0 : decide (g < 0) = false := decide_eq_false h0
        have t1 : decide (g > 9) = true := decide_eq_true h9
        go_enter Tryd.func14, Tryd.ntmps14
        go_wp2_with fail
        refine (HV.out _).mono ?_
        rintro e w1 ⟨rfl, hb⟩
        have B1 := Lib.hid (bTr B0.out hb)
        clear hb
        go_wp2
        go_ret
        exact ⟨ret_str (by rw [HR.out]), B1.out⟩
    · rw [show Frac.valid N D = false by simpa using hv] at HV
      clear hv h
      go_enter Tryd.func14, Tryd.ntmps14
      go_wp2_with fail
      refine (HV.out _).mono ?_
      rintro e w1 ⟨rfl, hb⟩
      have B1 := Lib.hid (bTr B0.out hb)
      clear hb
      go_wp2
      go_ret
      exact ⟨ret_str (by rw [HR.out]), B1.out⟩
set_option maxRecDepth 100000 in
set_option maxHeartbeats 8000000 in
theorem walkRatioDecimals (o : Option Addr) (n c : Nat) (zs : List Int) (a1 : Int) (w : World) (h : IsRow .i64 w o n c zs) (l1 : -9223372036854775808 ≤ a1) (u1 : a1 < 9223372036854775808) (HT : Tab w) :
    Calls Tryd.prog 4 #[.slice o n c, .int .i64 a1] w fun e w' => e = .returned (.bool true) ∧ Below w.heap.size w w' := by
  obtain ⟨hr, h1, h2, h3⟩ := row_of h
  clear h
  go_enter Tryd.func4, Tryd.ntmps4
  go_wp2_with fail
  refine (tape_new hr h1 h2 h3).mono ?_
  rintro e w1 ⟨g, n', rfl, ht, hb1, hg⟩
  clear hr h1 h2 h3
  go_wp2_with fail
  refine (tape_loose ht).mono ?_
  rintro e w2 ⟨N, D, ⟨hN, hD⟩, rfl, ht2, hg2⟩
  have HB2 := Lib.hid (hb1.trans (bGr hg2 hg hb1.size))
  have HT2 := Lib.hid (tab_later HT HB2.out (Nat.le_refl _))
  clear ht ht2 hg2 hb1 hg HT
  have H3 := Lib.hid ((Held.nil w2).add N D)
  have B3 := Lib.hid (bAl (Below.refl w2.heap.size w2) (.cells #[.int .i64 N, .int .i64 D] 24))
  have HT3 := Lib.hid (Tab.later HT2.out B3.out)
  obtain ⟨F, hF⟩ : ∃ F : Int → ByteArray, ∀ g, (⟨(decT N D g).toArray⟩ : ByteArray) = F g := ⟨fun g => ⟨(decT N D g).toArray⟩, fun g => rfl⟩
  have hc := cut_range a1 10 (by omega)
  have HC := Lib.hid (fun w => cut_any a1 10 (by omega) (by omega) ⟨l1, u1⟩ w)
  have g1 : I64 a1 := ⟨l1, u1⟩
  have g2 : I64 (a1 % 10) := ⟨by omega, by omega⟩
  generalize a1 % 10 = k at *
  clear hc l1 u1
  go_wp2_with fail
  refine (HC.out _).mono ?_
  rintro e wz ⟨rfl, hw⟩
  obtain rfl := hw
  generalize hw3 : w2.alloc (.cells #[.int .i64 N, .int .i64 D] 24) = w3 at H3 B3 HT3 ⊢
  clear hw3
  obtain ⟨⟨c0, c1⟩, -, hlt⟩ := H3.out.at_ (g := w2.heap.size) (p := N) (q := D) (by simp)
  have q0 := bq_cell (w := w3) (a := ⟨w2.heap.size, 0, none⟩) hlt c0
  have q1 := bq_cell (w := w3) (a := ⟨w2.heap.size, 1, none⟩) hlt c1
  have HP := Lib.hid (fun (m : Int) (hm : I64 m) (p : BelowOf w3) => decimal_any N D m hN hD hm (HT3.out.later p.h))
  have HR := Lib.hid (fun (m : Int) (hm : I64 m) (p : BelowOf w3) => rdecimal_any N D m hN hD hm p.to)
  simp only [hF] at HP HR
  clear hF hN hD c0 c1 HC
  go_wp2_with fail
  refine wp_region_below (by kernel_rfl) (by kernel_rfl) ?_
  repeat (go_big_quiet_step ((first | (go_at_call 13; exact bq_call (HP.out _ (by assumption) _)) | (go_at_call 14; exact bq_call (HR.out _ (by assumption) _)) | (go_at_call 11; exact bq_call (awake_any _)))))
  refine wpQuiet_nil ?_
  rintro w4 ⟨p, rfl⟩
  have BF := Lib.hid (HB2.out.trans ((bTr B3.out p.h).mono HB2.out.size))
  go_wp2
  go_ret
  exact ⟨rfl, BF.out⟩
end Go.Proofs.YtjdldkafghblmaaDoor
