/-
  Names: the program's and the reference's test.
-/
import Derived.Test.YtglikjdgjmijfaaNums
import Derived.Test.YtglikjdgjmijfaaQuietTail
import Derived.Test.YtglikjdgjmijfaaSMath
import Derived.LoopN
namespace Go.Proofs.Ytglikjdgjmijfaa
open Go.RowKit
set_option linter.unusedSimpArgs false
set_option linter.unusedVariables false

set_option maxHeartbeats 1000000 in
theorem isName_any (s : ByteArray) (w : World) :
    Calls Try.prog 76 #[.string s] w fun e w' => e = .returned (.bool (nameB s)) ∧ w' = w := by
  by_cases hL : 1 ≤ s.size ∧ s.size ≤ 12
  · have HO := Lib.hid (show nameB s = lowB s s.size by unfold nameB; rw [decide_eq_true hL]; rfl)
    obtain ⟨hL1, hL2⟩ := hL
    have hi1 : ¬ (s.size : Int) < 1 := by omega
    have hi2 : ¬ (12 : Int) < (s.size : Int) := by omega
    go_enter Try.func76, Try.ntmps76
    go_wp2_with fail
    go_loopw [14] (fun i wr => ∃ k : Nat, i = .int .i64 k ∧ k ≤ s.size ∧ Hid (lowB s k = true) ∧ wr = w) (fun i _ => s.size - (intOf i).toNat)
    case atStart => exact ⟨0, rfl, Nat.zero_le _, Lib.hid rfl, rfl⟩
    case round =>
      obtain ⟨k, rfl, hk, HD, rfl⟩ := hrel
      by_cases hkn : k < s.size
      · have hkn' : (k : Int) < (s.size : Int) := by omega
        have hx := byteAt_at s k hkn
        have hxb := byteAt_bd s k
        have HDS := Lib.hid (show lowB s (k + 1) = (lowB s k && decide (97 ≤ byteAt s k ∧ byteAt s k ≤ 122)) from rfl)
        have HNO := Lib.hid (fun h => lowB_no (s := s) (k := k) h hkn)
        generalize byteAt s k = x at hx hxb HDS HNO
        by_cases h1 : x < 97
        · have HF := Lib.hid (show nameB s = false by rw [HO.out]; exact HNO.out (by omega))
          go_wp2_with fail
          exact bodyPost_ret (v := .bool false) (by simp [results, Try.results76, go_sem]) rfl ⟨ret_bool HF.out.symm, rfl⟩
        · by_cases h2 : 122 < x
          · have HF := Lib.hid (show nameB s = false by rw [HO.out]; exact HNO.out (by omega))
            go_wp2_with fail
            exact bodyPost_ret (v := .bool false) (by simp [results, Try.results76, go_sem]) rfl ⟨ret_bool HF.out.symm, rfl⟩
          · have HD2 := Lib.hid (show lowB s (k + 1) = true by rw [HDS.out, HD.out, decide_eq_true (show 97 ≤ x ∧ x ≤ 122 by omega)]; rfl)
            go_wp2_with fail
            go_roundw
            case rel => exact ⟨k + 1, by go_num, by omega, HD2, trivial⟩
            case measure => simp [intOf]; omega
      · obtain rfl : k = s.size := by omega
        have HT := Lib.hid (show nameB s = true by rw [HO.out]; exact HD.out)
        go_wp2_with fail
        exact bodyPost_ret (v := .bool true) (by simp [results, Try.results76, go_sem]) rfl ⟨ret_bool HT.out.symm, rfl⟩
  · have HO := Lib.hid (show nameB s = false by unfold nameB; rw [decide_eq_false hL]; rfl)
    go_enter Try.func76, Try.ntmps76
    by_cases h1 : (s.size : Int) < 1
    · go_wp2_with fail
      exact bodyPost_ret (v := .bool false) (by simp [results, Try.results76, go_sem]) rfl ⟨ret_bool HO.out.symm, rfl⟩
    · have h2 : (12 : Int) < (s.size : Int) := by omega
      go_wp2_with fail
      exact bodyPost_ret (v := .bool false) (by simp [results, Try.results76, go_sem]) rfl ⟨ret_bool HO.out.symm, rfl⟩
set_option maxHeartbeats 1000000 in
theorem rname_any (s : ByteArray) (w : World) :
    Calls Try.prog 62 #[.string s] w fun e w' => e = .returned (.bool (nameB s)) ∧ w' = w := by
  by_cases hL : 1 ≤ s.size ∧ s.size ≤ 12
  · have HO := Lib.hid (show nameB s = lowB s s.size by unfold nameB; rw [decide_eq_true hL]; rfl)
    obtain ⟨hL1, hL2⟩ := hL
    have hi1 : ¬ (s.size : Int) < 1 := by omega
    have hi2 : ¬ (12 : Int) < (s.size : Int) := by omega
    go_enter Try.func62, Try.ntmps62
    go_wp2_with fail
    go_loopw [3] (fun i wr => ∃ k : Nat, i = .int .i64 k ∧ k ≤ s.size ∧ Hid (lowB s k = true) ∧ wr = w) (fun i _ => s.size - (intOf i).toNat)
    case atStart => exact ⟨0, rfl, Nat.zero_le _, Lib.hid rfl, rfl⟩
    case round =>
      obtain ⟨k, rfl, hk, HD, rfl⟩ := hrel
      by_cases hkn : k < s.size
      · have hkn' : (k : Int) < (s.size : Int) := by omega
        have hx := byteAt_at s k hkn
        have hxb := byteAt_bd s k
        have HDS := Lib.hid (show lowB s (k + 1) = (lowB s k && decide (97 ≤ byteAt s k ∧ byteAt s k ≤ 122)) from rfl)
        have HNO := Lib.hid (fun h => lowB_no (s := s) (k := k) h hkn)
        generalize byteAt s k = x at hx hxb HDS HNO
        by_cases h1 : x < 97
        · have HF := Lib.hid (show nameB s = false by rw [HO.out]; exact HNO.out (by omega))
          go_wp2_with fail
          exact bodyPost_ret (v := .bool false) (by simp [results, Try.results62, go_sem]) rfl ⟨ret_bool HF.out.symm, rfl⟩
        · by_cases h2 : 122 < x
          · have HF := Lib.hid (show nameB s = false by rw [HO.out]; exact HNO.out (by omega))
            go_wp2_with fail
            exact bodyPost_ret (v := .bool false) (by simp [results, Try.results62, go_sem]) rfl ⟨ret_bool HF.out.symm, rfl⟩
          · have HD2 := Lib.hid (show lowB s (k + 1) = true by rw [HDS.out, HD.out, decide_eq_true (show 97 ≤ x ∧ x ≤ 122 by omega)]; rfl)
            go_wp2_with fail
            go_roundw
            case rel => exact ⟨k + 1, by go_num, by omega, HD2, trivial⟩
            case measure => simp [intOf]; omega
      · obtain rfl : k = s.size := by omega
        have HT := Lib.hid (show nameB s = true by rw [HO.out]; exact HD.out)
        go_wp2_with fail
        exact bodyPost_ret (v := .bool true) (by simp [results, Try.results62, go_sem]) rfl ⟨ret_bool HT.out.symm, rfl⟩
  · have HO := Lib.hid (show nameB s = false by unfold nameB; rw [decide_eq_false hL]; rfl)
    go_enter Try.func62, Try.ntmps62
    by_cases h1 : (s.size : Int) < 1
    · go_wp2_with fail
      exact bodyPost_ret (v := .bool false) (by simp [results, Try.results62, go_sem]) rfl ⟨ret_bool HO.out.symm, rfl⟩
    · have h2 : (12 : Int) < (s.size : Int) := by omega
      go_wp2_with fail
      exact bodyPost_ret (v := .bool false) (by simp [results, Try.results62, go_sem]) rfl ⟨ret_bool HO.out.symm, rfl⟩
end Go.Proofs.Ytglikjdgjmijfaa
