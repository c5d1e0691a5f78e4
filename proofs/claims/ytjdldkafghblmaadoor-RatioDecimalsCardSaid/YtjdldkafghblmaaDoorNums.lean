/-
  Contracts of the small functions on words: magnitude, Size, the greatest common divisor.
-/
import Derived.Test.YtjdldkafghblmaaDoorProg
import Derived.Test.YtjdldkafghblmaaDoorMath
import Derived.Test.YtjdldkafghblmaaDoorMem
import Derived.WalkKit
import Derived.WalkLawsBesides
import Derived.WalkSpells
import Derived.BigQuiet
import Derived.Deep.QuietTactic
import Derived.Lib.Hide
import Derived.Laws.Bits64
import Derived.Deep.LoopGhost
import Derived.Outline
namespace Go.Proofs.YtjdldkafghblmaaDoor
open Go.RowKit
set_option linter.unusedVariables false
set_option linter.unusedSimpArgs false

theorem neg_word (n : Int) (h0 : -9223372036854775808 ≤ n) (h : n < 0) : IntKind.u64.wrap (-IntKind.u64.wrap n) = (n.natAbs : Int) := by
  rw [IntKind.wrap_u64, IntKind.wrap_u64]; omega

set_option maxHeartbeats 400000 in
theorem magnitude_any (n : Int) (h0 : -9223372036854775808 ≤ n) (h1 : n < 9223372036854775808) (w : World) :
    Calls Tryd.prog 32 #[.int .i64 n] w fun e w' => e = .returned (.int .u64 (n.natAbs : Int)) ∧ w = w' := by
  by_cases h : n < 0
  · go_enter Tryd.func32, Tryd.ntmps32
    go_wp2
    go_ret
    exact ⟨ret_int (neg_word n h0 h), rfl⟩
  · go_enter Tryd.func32, Tryd.ntmps32
    go_wp2
    go_ret
    exact ⟨ret_int (by omega), rfl⟩

set_option maxHeartbeats 400000 in
theorem size_any (n : Int) (h0 : -9223372036854775808 ≤ n) (h1 : n < 9223372036854775808) (w : World) :
    Calls Tryd.prog 22 #[.int .i64 n] w fun e w' => e = .returned (.int .u64 (n.natAbs : Int)) ∧ w = w' := by
  by_cases h : n < 0
  · go_enter Tryd.func22, Tryd.ntmps22
    go_wp2
    go_ret
    exact ⟨ret_int (by omega), rfl⟩
  · go_enter Tryd.func22, Tryd.ntmps22
    go_wp2
    go_ret
    exact ⟨ret_int (by omega), rfl⟩

set_option maxHeartbeats 400000 in
theorem gcd_any (a b : Nat) (ha : a < 18446744073709551616) (hb : b < 18446744073709551616) (w : World) :
    Calls Tryd.prog 47 #[.int .u64 a, .int .u64 b] w fun e w' => e = .returned (.int .u64 (Nat.gcd a b : Nat)) ∧ ∃ n, w' = w.drewN n := by
  go_enter Tryd.func47, Tryd.ntmps47
  go_wp2
  go_loopw [0, 1] (fun x y wr => ∃ i j n : Nat, x = .int .u64 i ∧ y = .int .u64 j ∧ i < 18446744073709551616 ∧ j < 18446744073709551616 ∧ Hid (Nat.gcd i j = Nat.gcd a b) ∧ wr = w.drewN n) (fun _ y _ => (intOf y).toNat)
  case atStart => exact ⟨a, b, 0, rfl, rfl, ha, hb, rfl, rfl⟩
  case round =>
    obtain ⟨i, j, n, rfl, rfl, hi, hj, HG, rfl⟩ := hrel
    by_cases hz : j = 0
    · subst hz
      go_wp2
      go_ret
      exact ⟨ret_int (by rw [← HG.out, Nat.gcd_zero_right]), n, rfl⟩
    · have hne : ((j : Int) != 0) = true := by rw [bne_iff_ne]; omega
      have hnb : ((j : Int) == 0) = false := by rw [beq_eq_false_iff_ne]; omega
      have hjp : (0 : Int) < (j : Int) := by omega
      go_wp2
      go_quiet (fail)
      go_roundw
      case rel =>
        refine ⟨_, _, _, _, _, _, _, _, ⟨j, i % j, n + nq, rfl, ?_, hj, ?_, ?_, ?_⟩, rfl⟩
        · rw [Int.natCast_emod]
        · have := Nat.mod_lt i (by omega : 0 < j); omega
        · show _ = _
          rw [← HG.out, Nat.gcd_comm i j, Nat.gcd_rec j i, Nat.gcd_comm]
        · rw [World.drewN_drewN]
      case measure =>
        have := Nat.mod_lt i (by omega : 0 < j)
        simp [intOf]; omega
end Go.Proofs.YtjdldkafghblmaaDoor
