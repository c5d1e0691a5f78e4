/-
  The walk of the statement on Near.
-/
import Derived.Test.YtlionhmmefghmaaNearMath
import Derived.Test.YtlionhmmefghmaaQuietB
namespace Go.Proofs.Ytlionhmmefghmaa
open Go.RowKit
set_option linter.unusedSimpArgs false
set_option linter.unusedVariables false
set_option maxRecDepth 100000

set_option maxHeartbeats 4000000 in
theorem walkIdentityNears (s : ByteArray) (a1 a2 a3 : Int) (hs : s.size ≤ maxLen) (l1 : -9223372036854775808 ≤ a1) (u1 : a1 < 9223372036854775808) (l2 : -9223372036854775808 ≤ a2) (u2 : a2 < 9223372036854775808) (l3 : 0 ≤ a3) (u3 : a3 < 256) (w : World) :
    Calls Try.prog 8 #[.string s, .int .i64 a1, .int .i64 a2, .int .u8 a3] w fun e w' => e = .returned (.bool true) ∧ Below w.heap.size w w' := by
  go_enter Try.func8, Try.ntmps8
  go_wp2_with fail
  refine (number_any a1 (by omega) _).mono ?_
  rintro e w1 ⟨rfl, hb⟩
  have HB := Lib.hid hb
  clear hb
  have hz : (numS a1).size = 9 := numS_size a1
  generalize numS a1 = N at hz ⊢
  go_wp2_with fail
  refine (cut_any a2 9 (by omega) (by omega) _).mono ?_
  rintro e w' ⟨rfl, rfl⟩
  have hm0 : 0 ≤ a2 % 9 ∧ a2 % 9 < 9 := by omega
  generalize a2 % 9 = m0 at hm0 ⊢
  obtain ⟨m, rfl⟩ := Int.eq_ofNat_of_zero_le hm0.1
  have hcv1 := text_one w' a3 (by omega)
  have hcv2 := text_blk (w'.alloc (.cells #[.int .u8 a3] 5)).drew w'.heap.size a3 (by omega) (Blk.newAt rfl)
  have hz1 : (N.extract 0 m).size = m := by rw [ByteArray.size_extract]; omega
  have hz2 : (N.extract (m + 1) 9).size = 8 - m := by rw [ByteArray.size_extract]; omega
  have hm1 : (m : Int) ≤ 9 := by omega
  have hm2 : (m : Int) + 1 ≤ 9 := by omega
  go_wp2_with fail
  go_region
  clear hcv1 hcv2 hz1 hz2 hm1 hm2
  have HB2 := Lib.hid (bD1 (bAl HB.out (.cells #[.int .u8 a3] 5)))
  generalize (w'.alloc (.cells #[.int .u8 a3] 5)).drew = w2 at HB2 ⊢
  clear HB
  generalize (N.extract 0 m ++ { data := #[UInt8.ofNat a3.toNat] } ++ N.extract (m + 1) 9) = Z
  go_wp2_with fail
  refine (near_any s _).mono ?_
  rintro e w3 ⟨va3, rfl, hta, hb⟩
  have HTA := Lib.hid hta
  have HB3 := Lib.hid (bTr HB2.out hb)
  clear hb hta HB2
  go_wp2_with fail
  refine (rnear_any s _).mono ?_
  rintro e w4 ⟨vb3, rfl, htb, hb⟩
  rw [near_eq] at htb
  have HTB := Lib.hid htb
  have HTA2 := Lib.hid (own_later HTA.out hb)
  have HB4 := Lib.hid (bTr HB3.out hb)
  clear hb htb HTA HB3
  go_wp2_with fail
  refine (texts_any _ _ _ _ _ _ _ HTA2.out HTB.out (nearL_len s) (nearL_len s)).mono ?_
  rintro e w5 ⟨rfl, hb⟩
  have HB5 := Lib.hid (bTr HB4.out hb)
  rw [decide_eq_true (rfl : nearL s = nearL s)]
  clear hb HTA2 HTB HB4
  go_wp2_with fail
  refine (near_any Z _).mono ?_
  rintro e w6 ⟨va6, rfl, hta, hb⟩
  have HTA := Lib.hid hta
  have HB6 := Lib.hid (bTr HB5.out hb)
  clear hb hta HB5
  go_wp2_with fail
  refine (rnear_any Z _).mono ?_
  rintro e w7 ⟨vb6, rfl, htb, hb⟩
  rw [near_eq] at htb
  have HTB := Lib.hid htb
  have HTA2 := Lib.hid (own_later HTA.out hb)
  have HB7 := Lib.hid (bTr HB6.out hb)
  clear hb htb HTA HB6
  go_wp2_with fail
  refine (texts_any _ _ _ _ _ _ _ HTA2.out HTB.out (nearL_len Z) (nearL_len Z)).mono ?_
  rintro e w8 ⟨rfl, hb⟩
  have HB8 := Lib.hid (bTr HB7.out hb)
  rw [decide_eq_true (rfl : nearL Z = nearL Z)]
  clear hb HTA2 HTB HB7
  go_wp2_with fail
  refine (awake_any _).mono ?_
  rintro e w11 ⟨rfl, hb⟩
  go_wp2_with fail
  go_ret
  exact ⟨rfl, bTr HB8.out hb⟩
end Go.Proofs.Ytlionhmmefghmaa
