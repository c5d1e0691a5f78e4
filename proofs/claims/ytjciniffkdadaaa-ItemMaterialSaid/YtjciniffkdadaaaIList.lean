/-
  Lists of parts, of enemies, and stems: the program's tests and its sum.
-/
import Derived.Test.YtjciniffkdadaaaIPart
namespace Go.Proofs.Ytjciniffkdadaaa
open Go.RowKit
set_option linter.unusedSimpArgs false
set_option linter.unusedVariables false

set_option maxHeartbeats 2000000 in
theorem allValid_any (o : Option Addr) (n c : Nat) (P : Nat → Pt) (w : World) (hs : RowP w w.heap.size o n P) (hn : n ≤ 1000000) :
    Calls Try.prog 44 #[.slice o n c] w fun e w' => e = .returned (.bool (allOk P n)) ∧ Below w.heap.size w w' := by
  have HS := Lib.hid hs
  clear hs
  go_enter Try.func44, Try.ntmps44
  go_wp2_with fail
  go_loopw [7] (fun i wr => ∃ k : Nat, i = .int .i64 k ∧ k ≤ n ∧ Hid (allOk P k = true) ∧ Hid (Below w.heap.size w wr)) (fun i _ => n - (intOf i).toNat)
  case atStart => exact ⟨0, rfl, Nat.zero_le _, Lib.hid rfl, Lib.hid (Below.refl _ _)⟩
  case round =>
    obtain ⟨k, rfl, hk, HD, HB⟩ := hrel
    by_cases hkn : k < n
    · have hkn' : (k : Int) < (n : Int) := by omega
      obtain ⟨b, off, rfl, hbB, h0, h1, h2, h3, h4, h5⟩ := HS.out.below HB.out (Nat.le_refl _) k hkn
      have HV := Lib.hid (fun W => valid_any (P k) W)
      unfold ptC at HV
      cases hq : (P k).okB
      · have HF := Lib.hid (allOk_no hq hkn)
        rw [hq] at HV
        clear hq
        generalize P k = q at HV h0 h1 h2 h3 h4 h5
        go_wp2_with (go_at_call 12; refine (HV.out _).mono ?_; rintro e w5 ⟨rfl, hb⟩; have HB5 := Lib.hid (bTr (bAl HB.out _) hb); clear hb)
        exact bodyPost_ret (v := .bool false) (by simp [results, Try.results44, go_sem]) rfl ⟨retB HF.out.symm, HB5.out⟩
      · have HG := Lib.hid (allOk_go HD.out hq)
        rw [hq] at HV
        clear hq
        generalize P k = q at HV h0 h1 h2 h3 h4 h5
        go_wp2_with (go_at_call 12; refine (HV.out _).mono ?_; rintro e w5 ⟨rfl, hb⟩; have HB5 := Lib.hid (bTr (bAl HB.out _) hb); clear hb)
        go_roundw
        case rel => exact ⟨k + 1, by go_num, by omega, HG, HB5⟩
        case measure => simp [intOf]; omega
    · obtain rfl : k = n := by omega
      go_wp2_with fail
      exact bodyPost_ret (v := .bool true) (by simp [results, Try.results44, go_sem]) rfl ⟨retB HD.out.symm, HB.out⟩
set_option maxHeartbeats 2000000 in
theorem marks_any (o : Option Addr) (n c : Nat) (P : Nat → Pt) (w : World) (hs : RowP w w.heap.size o n P) (hn : n ≤ 100) (hP : allOk P n = true) :
    Calls Try.prog 46 #[.slice o n c] w fun e w' => e = .returned (.int .i64 (sumM P n)) ∧ Below w.heap.size w w' := by
  have HS := Lib.hid hs
  clear hs
  have HP := Lib.hid (fun k (hk : k ≤ n) => sumM_bd2 hP hk hn)
  clear hP
  go_enter Try.func46, Try.ntmps46
  go_wp2_with fail
  go_loopw [3, 8] (fun v i wr => ∃ k : Nat, i = .int .i64 k ∧ k ≤ n ∧ v = .int .i64 (sumM P k) ∧ Hid (Below w.heap.size w wr)) (fun _ i _ => n - (intOf i).toNat)
  case atStart => exact ⟨0, rfl, Nat.zero_le _, rfl, Lib.hid (Below.refl _ _)⟩
  case round =>
    obtain ⟨k, rfl, hk, rfl, HB⟩ := hrel
    by_cases hkn : k < n
    · have hkn' : (k : Int) < (n : Int) := by omega
      obtain ⟨b, off, rfl, hbB, h0, h1, h2, h3, h4, h5⟩ := HS.out.below HB.out (Nat.le_refl _) k hkn
      have hx := HP.out k hk
      have hy := HP.out (k + 1) hkn
      have HE := Lib.hid (sumM_step (P := P) k)
      rw [HE.out] at hy
      generalize sumM P k = s at hx hy HE ⊢
      generalize P k = q at h0 h1 h2 h3 h4 h5 hy HE
      have hwr : IntKind.i64.wrap (s + q.mx) = s + q.mx := by rw [IntKind.wrap_i64]; omega
      clear hx hy
      go_wp2_with fail
      go_roundw
      case rel => exact ⟨k + 1, by go_num, by omega, by rw [HE.out], Lib.hid (bAl HB.out _)⟩
      case measure => simp [intOf]; omega
    · obtain rfl : k = n := by omega
      go_wp2_with fail
      exact bodyPost_ret (v := .int .i64 (sumM P k)) (by simp [results, Try.results46, go_sem]) rfl ⟨rfl, HB.out⟩
theorem empty_size (s : ByteArray) : s.toList.isEmpty = decide (s.size = 0) := by
  rw [ByteArray.toList_eq s]
  have : s.data.toList.length = s.size := by simp
  rw [← this]
  cases s.data.toList <;> simp
theorem nonempty_size (s : ByteArray) : (!s.toList.isEmpty) = decide (s.size ≠ 0) := by
  rw [empty_size]; by_cases h : s.size = 0 <;> simp [h]
set_option maxHeartbeats 2000000 in
theorem stem_any (s : ByteArray) (w : World) (hs : s.size ≤ 1000000) :
    Calls Try.prog 43 #[.string s] w fun e w' => e = .returned (.bool (stemB s)) ∧ w' = w := by
  have HST := Lib.hid (show stemB s = (decide (s.size ≠ 0) && prB s s.size) from rfl)
  go_enter Try.func43, Try.ntmps43
  go_wp2_with fail
  go_loopw [6] (fun i wr => ∃ k : Nat, i = .int .i64 k ∧ k ≤ s.size ∧ Hid (prB s k = true) ∧ wr = w) (fun i _ => s.size - (intOf i).toNat)
  case atStart => exact ⟨0, rfl, Nat.zero_le _, Lib.hid rfl, rfl⟩
  case round =>
    obtain ⟨k, rfl, hk, HD, rfl⟩ := hrel
    by_cases hkn : k < s.size
    · have hkn' : (k : Int) < (s.size : Int) := by omega
      have hx := byteAt_at s k hkn
      have hxb := byteAt_bd s k
      have HDS := Lib.hid (show prB s (k + 1) = (prB s k && decide (32 ≤ byteAt s k ∧ byteAt s k ≤ 126)) from rfl)
      have HNO := Lib.hid (fun h => prB_no (s := s) (k := k) h hkn)
      generalize byteAt s k = x at hx hxb HDS HNO
      by_cases h1 : x < 32
      · have HF := Lib.hid (show stemB s = false by rw [HST.out, HNO.out (by omega), Bool.and_false])
        go_wp2_with fail
        exact bodyPost_ret (v := .bool false) (by simp [results, Try.results43, go_sem]) rfl ⟨retB HF.out.symm, rfl⟩
      · by_cases h2 : 126 < x
        · have HF := Lib.hid (show stemB s = false by rw [HST.out, HNO.out (by omega), Bool.and_false])
          go_wp2_with fail
          exact bodyPost_ret (v := .bool false) (by simp [results, Try.results43, go_sem]) rfl ⟨retB HF.out.symm, rfl⟩
        · have HD2 := Lib.hid (show prB s (k + 1) = true by rw [HDS.out, HD.out, decide_eq_true (show 32 ≤ x ∧ x ≤ 126 by omega)]; rfl)
          go_wp2_with fail
          go_roundw
          case rel => exact ⟨k + 1, by go_num, by omega, HD2, trivial⟩
          case measure => simp [intOf]; omega
    · obtain rfl : k = s.size := by omega
      have HT := Lib.hid (show stemB s = decide (s.size ≠ 0) by rw [HST.out, HD.out, Bool.and_true])
      go_wp2_with fail
      exact bodyPost_ret (v := .bool (!s.toList.isEmpty)) (by simp [results, Try.results43, go_sem]) rfl ⟨retB (by rw [HT.out]; exact nonempty_size s), rfl⟩
set_option maxHeartbeats 2000000 in
theorem canHave_any (id : Int) (o : Option Addr) (n c : Nat) (E : Nat → Int) (w : World) (hs : RowI w w.heap.size o n E) (hn : n ≤ 1000000) :
    Calls Try.prog 45 #[.int .i64 id, .slice o n c] w fun e w' => e = .returned (.bool (canE E id n)) ∧ w' = w := by
  have HS := Lib.hid hs
  clear hs
  go_enter Try.func45, Try.ntmps45
  go_wp2_with fail
  go_loopw [5, 10] (fun v i wr => ∃ k : Nat, i = .int .i64 k ∧ k ≤ n ∧ v = .int .i64 (prv E k) ∧ Hid (canE E id k = true) ∧ wr = w) (fun _ i _ => n - (intOf i).toNat)
  case atStart => exact ⟨0, rfl, Nat.zero_le _, rfl, Lib.hid rfl, rfl⟩
  case round =>
    obtain ⟨k, rfl, hk, rfl, HD, rfl⟩ := hrel
    by_cases hkn : k < n
    · have hkn' : (k : Int) < (n : Int) := by omega
      obtain ⟨b, off, rfl, hbB, hc⟩ := HS.out k hkn
      have HE := Lib.hid (prv_succ E k)
      have HY := Lib.hid (show badE E id k ↔ (E k ≤ prv E k ∨ 9999 < E k ∨ E k = id) from Iff.rfl)
      by_cases hbad : badE E id k
      · have HF := Lib.hid (canE_no hbad hkn)
        have hbad' := HY.out.1 hbad
        clear HY hbad
        generalize E k = x at hc HE hbad' ⊢
        generalize prv E k = y at hbad' ⊢
        by_cases g1 : x ≤ y
        · go_wp2_with fail
          exact bodyPost_ret (v := .bool false) (by simp [results, Try.results45, go_sem]) rfl ⟨retB HF.out.symm, rfl⟩
        · by_cases g2 : 9999 < x
          · go_wp2_with fail
            exact bodyPost_ret (v := .bool false) (by simp [results, Try.results45, go_sem]) rfl ⟨retB HF.out.symm, rfl⟩
          · have g3 : (x == id) = true := by rw [show x = id by omega]; simp
            clear hbad'
            go_wp2_with fail
            exact bodyPost_ret (v := .bool false) (by simp [results, Try.results45, go_sem]) rfl ⟨retB HF.out.symm, rfl⟩
      · have HG := Lib.hid (canE_go HD.out hbad)
        have hbad' : ¬ (E k ≤ prv E k ∨ 9999 < E k ∨ E k = id) := fun h => hbad (HY.out.2 h)
        clear HY hbad
        generalize E k = x at hc HE hbad' ⊢
        generalize prv E k = y at hbad' ⊢
        have g1 : ¬ x ≤ y := by omega
        have g2 : ¬ 9999 < x := by omega
        have g3 : (x == id) = false := by rw [beq_eq_false_iff_ne]; omega
        clear hbad'
        go_wp2_with fail
        go_roundw
        case rel => exact ⟨k + 1, by go_num, by omega, by rw [HE.out], HG, trivial⟩
        case measure => simp [intOf]; omega
    · obtain rfl : k = n := by omega
      go_wp2_with fail
      exact bodyPost_ret (v := .bool true) (by simp [results, Try.results45, go_sem]) rfl ⟨retB HD.out.symm, rfl⟩
end Go.Proofs.Ytjciniffkdadaaa
