/-
  The walk of the statement on Letter.
-/
import Derived.Test.YtlionhmmefghmaaAwake
namespace Go.Proofs.Ytlionhmmefghmaa
open Go.RowKit
set_option linter.unusedSimpArgs false
set_option linter.unusedVariables false
set_option maxRecDepth 100000

set_option maxHeartbeats 4000000 in
theorem walkIdentityLetters (s : ByteArray) (a1 : Int) (hs : s.size ≤ maxLen) (l1 : -9223372036854775808 ≤ a1) (u1 : a1 < 9223372036854775808) (w : World) :
    Calls Try.prog 4 #[.string s, .int .i64 a1] w fun e w' => e = .returned (.bool true) ∧ Below w.heap.size w w' := by
  go_enter Try.func4, Try.ntmps4
  go_wp2_with fail
  refine (letterOf_any s _).mono ?_
  rintro e w1 ⟨rfl, hb⟩
  have HB := Lib.hid hb
  clear hb
  go_wp2_with fail
  refine (rletter_any s _).mono ?_
  rintro e w2 ⟨rfl, hb⟩
  have HB2 := Lib.hid (bTr HB.out hb)
  clear hb HB
  go_wp2_with fail
  refine (number_any a1 (by omega) _).mono ?_
  rintro e w3 ⟨rfl, hb⟩
  have HB3 := Lib.hid (bTr HB2.out hb)
  clear hb HB2
  have hz : (numS a1).size = 9 := rfl
  go_wp2_with fail
  refine (letterOf_any _ _).mono ?_
  rintro e w4 ⟨rfl, hb⟩
  have HB4 := Lib.hid (bTr HB3.out hb)
  clear hb HB3
  go_wp2_with fail
  refine (rletter_any _ _).mono ?_
  rintro e w5 ⟨rfl, hb⟩
  have HB5 := Lib.hid (bTr HB4.out hb)
  clear hb HB4
  go_wp2_with fail
  refine (awake_any _).mono ?_
  rintro e w6 ⟨rfl, hb⟩
  have HB6 := Lib.hid (bTr HB5.out hb)
  go_wp2_with fail
  go_ret
  exact ⟨rfl, HB6.out⟩
end Go.Proofs.Ytlionhmmefghmaa
