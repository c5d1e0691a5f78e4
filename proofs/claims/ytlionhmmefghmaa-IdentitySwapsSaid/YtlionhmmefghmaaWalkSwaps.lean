/-
  The walk of the statement that exchanged digits are detected.
-/
import Derived.Test.YtlionhmmefghmaaSwapMath
import Derived.Test.YtlionhmmefghmaaQuietB
namespace Go.Proofs.Ytlionhmmefghmaa
open Go.RowKit
set_option linter.unusedSimpArgs false
set_option linter.unusedVariables false
set_option maxRecDepth 100000

set_option maxHeartbeats 4000000 in
theorem walkIdentitySwaps (a0 a1 a2 : Int) (l0 : -9223372036854775808 ≤ a0) (u0 : a0 < 9223372036854775808) (l1 : -9223372036854775808 ≤ a1) (u1 : a1 < 9223372036854775808) (l2 : -9223372036854775808 ≤ a2) (u2 : a2 < 9223372036854775808) (w : World) :
    Calls Try.prog 10 #[.int .i64 a0, .int .i64 a1, .int .i64 a2] w fun e w' => e = .returned (.bool true) ∧ Below w.heap.size w w' := by
  go_enter Try.func10, Try.ntmps10
  go_wp2_with fail
  refine (cut_any a0 100 (by omega) (by omega) _).mono ?_
  rintro e w' ⟨rfl, rfl⟩
  have hb0 : 0 ≤ a0 % 100 ∧ a0 % 100 < 100 := by omega
  generalize a0 % 100 = b0 at hb0 ⊢
  obtain ⟨q1, hq1⟩ : ∃ q, a0.tdiv 128 = q := ⟨_, rfl⟩
  obtain ⟨q2, hq2⟩ : ∃ q, a0.tdiv 16384 = q := ⟨_, rfl⟩
  have hqb1 := tdiv_bd l0 u0 (show (1 : Int) < 128 by omega)
  have hqb2 := tdiv_bd l0 u0 (show (1 : Int) < 16384 by omega)
  rw [hq1] at hqb1
  rw [hq2] at hqb2
  go_wp2_with fail
  refine (cut_any q1 100 hqb1 (by omega) _).mono ?_
  rintro e w' ⟨rfl, rfl⟩
  have hb1 : 0 ≤ q1 % 100 ∧ q1 % 100 < 100 := by omega
  generalize q1 % 100 = b1 at hb1 ⊢
  go_wp2_with fail
  refine (cut_any q2 10000 hqb2 (by omega) _).mono ?_
  rintro e w' ⟨rfl, rfl⟩
  have hb2 : 0 ≤ q2 % 10000 ∧ q2 % 10000 < 10000 := by omega
  generalize q2 % 10000 = b2 at hb2 ⊢
  obtain ⟨N, hN, hf1, hf2⟩ := fmt_id b0 b1 b2 (by omega) (by omega) (by omega)
  have HX : Hid (∀ i, i < 9 → byteAt (tx9 (numC N)) i = numC N i) := Lib.hid fun i hi => byteAt_tx9 _ (numC_bd N) hi
  have hz : (tx9 (numC N)).size = 9 := rfl
  generalize tx9 (numC N) = X at hf1 HX hz
  go_wp2_with fail
  refine (format_any _ _ _ _).mono ?_
  rintro e w1 ⟨rfl, hb⟩
  rw [hf1, hf2]
  have HB := Lib.hid hb
  clear hb hq1 hq2 hqb1 hqb2 hf1 hf2 hb0 hb1 hb2
  go_wp2_with fail
  refine (cut_any a1 8 (by omega) (by omega) _).mono ?_
  rintro e w' ⟨rfl, rfl⟩
  have hm0 : 0 ≤ a1 % 8 ∧ a1 % 8 < 8 := by omega
  generalize a1 % 8 = m0 at hm0 ⊢
  obtain ⟨i, rfl⟩ := Int.eq_ofNat_of_zero_le hm0.1
  go_wp2_with fail
  refine (cut_any a2 8 (by omega) (by omega) _).mono ?_
  rintro e w' ⟨rfl, rfl⟩
  have hm1 : 0 ≤ a2 % 8 ∧ a2 % 8 < 8 := by omega
  generalize a2 % 8 = m1 at hm1 ⊢
  obtain ⟨k, rfl⟩ := Int.eq_ofNat_of_zero_le hm1.1
  have hi8 : i < 8 := by omega
  have hk8 : k < 8 := by omega
  have hSW := swap_bad N hi8 hk8
  have hci : ((X[i]'(by omega)).toNat : Int) = numC N i := (byteAt_at X i (by omega)).trans (HX.out i (by omega))
  have hck : ((X[k]'(by omega)).toNat : Int) = numC N k := (byteAt_at X k (by omega)).trans (HX.out k (by omega))
  go_wp2_with fail
  by_cases he : numC N i = numC N k
  · rw [he] at hci
    clear hSW
    go_region
    go_wp2_with fail
    refine (awake_any _).mono ?_
    rintro e w3 ⟨rfl, hb⟩
    have HB3 := Lib.hid (bTr (bD1 HB.out) hb)
    clear hb
    go_wp2_with fail
    go_ret
    exact ⟨rfl, HB3.out⟩
  · have hP := hSW he
    have hbf : (numC N i == numC N k) = false := beq_eq_false_iff_ne.2 he
    clear hSW
    go_region
    obtain ⟨w2, cap, hrun, hcap, RB, HW, hlt⟩ := bytes_of X hz w'.drew
    have HB2 := Lib.hid (HW.out _ _ (bD1 HB.out) (bD1 HB.out).size)
    have hgb := (bD1 HB.out).size
    rw [show w'.drew.heap.size = w'.heap.size from rfl] at hgb
    have hg : w'.drew.heap.size = w'.heap.size := rfl
    rw [hg] at hrun RB hlt
    clear HW HB hg
    have RC : Hid (RowB w2 w'.heap.size (numC N)) := Lib.hid fun j hj => by have := RB.out j hj; rwa [HX.out j hj] at this
    clear RB
    have y0 := (RC.out i (by omega)).1
    have y1 := (RC.out k (by omega)).1
    have f0 := (RC.out i (by omega)).2
    have f1 := (RC.out k (by omega)).2
    go_wp2_with fail
    have hik : ¬ i = k := fun e => he (by rw [e])
    have hki : ¬ k = i := fun e => he (by rw [e])
    have h1c : i < cap := by omega
    have h2c : k < cap := by omega
    go_region
    have RS : RowB ((w2.setCell ⟨w'.heap.size, i, none⟩ (.int .u8 (numC N k))).setCell ⟨w'.heap.size, k, none⟩ (.int .u8 (numC N i))).drew w'.heap.size (upd (upd (numC N) i (numC N k)) k (numC N i)) := (RC.out.set_ (show i < 9 by omega) (numC N k)).set_ (show k < 9 by omega) (numC N i)
    have HB3 := Lib.hid (bD1 (bSt (bSt HB2.out (p := ⟨w'.heap.size, i, none⟩) hgb (.int .u8 (numC N k))) (p := ⟨w'.heap.size, k, none⟩) hgb (.int .u8 (numC N i))))
    have hrun2 := text_row _ _ cap _ (upd_bd (upd_bd (numC_bd N) i (numC_bd N k)) k (numC_bd N i)) RS
    generalize ((w2.setCell ⟨w'.heap.size, i, none⟩ (.int .u8 (numC N k))).setCell ⟨w'.heap.size, k, none⟩ (.int .u8 (numC N i))).drew = w4 at HB3 hrun2 ⊢
    generalize tx9 (upd (upd (numC N) i (numC N k)) k (numC N i)) = Y at hP hrun2 ⊢
    clear RC RS y0 y1 f0 f1
    go_wp2_with fail
    refine (parse_any Y _).mono ?_
    rintro e w5 ⟨rfl, hb⟩
    rw [hP]
    have HB5 := Lib.hid (bTr HB3.out hb)
    clear hb HB3
    go_wp2_with fail
    refine (awake_any _).mono ?_
    rintro e w6 ⟨rfl, hb⟩
    have HB6 := Lib.hid (bTr (bAl HB5.out _) hb)
    clear hb
    go_wp2_with fail
    go_ret
    exact ⟨rfl, HB6.out⟩
end Go.Proofs.Ytlionhmmefghmaa
