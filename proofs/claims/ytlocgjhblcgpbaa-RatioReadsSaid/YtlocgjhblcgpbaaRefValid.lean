/-
  The contract of the reference's Valid, and the walk of the statement on Valid.
-/
import Derived.Test.YtlocgjhblcgpbaaRef
import Derived.Test.YtlocgjhblcgpbaaAwaken
namespace Go.Proofs.Ytlocgjhblcgpbaa
open Go.RowKit
set_option linter.unusedSimpArgs false
set_option linter.unusedVariables false

set_option maxHeartbeats 1000000 in
theorem r_valid (n d : Int) (n0 : -9223372036854775808 ≤ n) (n1 : n < 9223372036854775808) (d0 : -9223372036854775808 ≤ d) (d1 : d < 9223372036854775808) (w : World) :
    Calls Try.prog 49 #[.agg #[.int .i64 n, .int .i64 d]] w fun e w' => e = .returned (.bool (Frac.valid n d)) ∧ Below w.heap.size w w' := by
  by_cases h1 : d < 1
  · have H := Lib.hid (valid_no n d (.inl h1))
    go_enter Try.func49, Try.ntmps49
    go_wp2
    go_ret
    exact ⟨ret_bool H.out, bAl (Below.refl _ _) _⟩
  by_cases h2 : 1152921504606846976 < d
  · have H := Lib.hid (valid_no n d (.inr (.inl h2)))
    go_enter Try.func49, Try.ntmps49
    go_wp2
    go_ret
    exact ⟨ret_bool H.out, bAl (Below.refl _ _) _⟩
  by_cases h3 : n < -1152921504606846976
  · have H := Lib.hid (valid_no n d (.inr (.inr (.inl h3))))
    go_enter Try.func49, Try.ntmps49
    go_wp2
    go_ret
    exact ⟨ret_bool H.out, bAl (Below.refl _ _) _⟩
  by_cases h4 : 1152921504606846976 < n
  · have H := Lib.hid (valid_no n d (.inr (.inr (.inr h4))))
    go_enter Try.func49, Try.ntmps49
    go_wp2
    go_ret
    exact ⟨ret_bool H.out, bAl (Below.refl _ _) _⟩
  have H := Lib.hid (valid_yes n d (by omega) (by omega) (by omega) (by omega))
  obtain ⟨g, hg⟩ : ∃ g, Nat.gcd n.natAbs d.natAbs = g := ⟨_, rfl⟩
  rw [hg] at H
  have HG := Lib.hid hg
  clear hg
  have fin : ∀ (bb : Bool), ((g : Int) == 1) = bb → Calls Try.prog 49 #[.agg #[.int .i64 n, .int .i64 d]] w fun e w' => e = .returned (.bool bb) ∧ Below w.heap.size w w' := by
    intro bb hbb
    cases bb
    all_goals
      go_enter Try.func49, Try.ntmps49
      go_wp2_with fail
      have HB := Lib.hid (bAl (Below.refl w.heap.size w) (Obj.cells #[.int .i64 n, .int .i64 d] 26))
      go_region_held3 (fun w' => w'.cell? ⟨w.heap.size, 0, none⟩ = some (.int .i64 n) ∧ w'.cell? ⟨w.heap.size, 1, none⟩ = some (.int .i64 d)) (first | go_keep | (go_split_ands; refine ⟨?_, ?_⟩ <;> (rw [hb.cell (by simp)]; assumption)))
        (first | (go_at_call 52; refine (size_any _ (by omega) (by omega) _).mono ?_; rintro e w' ⟨rfl, rfl⟩) | (go_at_call 58; refine (r_divisor_small _ _ _ (by omega) (by omega)).mono ?_; rw [HG.out]; rintro e w' ⟨rfl, hb⟩; have HB := Lib.hid (bTr (by first | exact HB.out | exact bD1 HB.out) hb)))
      go_wp2
      go_ret
      exact ⟨rfl, HB.out⟩
  refine (fin _ rfl).mono ?_
  rintro e w' ⟨rfl, hb⟩
  exact ⟨ret_bool H.out, hb⟩
end Go.Proofs.Ytlocgjhblcgpbaa
