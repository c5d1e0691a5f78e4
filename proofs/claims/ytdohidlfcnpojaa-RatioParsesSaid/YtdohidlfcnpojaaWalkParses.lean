/-
  The walk of the statement on Parse.
-/
import Derived.Test.YtdohidlfcnpojaaPAll
import Derived.Test.YtdohidlfcnpojaaHeldR
namespace Go.Proofs.Ytdohidlfcnpojaa
open Go.RowKit
set_option linter.unusedSimpArgs false
set_option linter.unusedVariables false

set_option maxRecDepth 100000 in
set_option maxHeartbeats 4000000 in
theorem walkRatioParses (s : ByteArray) (hs : s.size ≤ maxLen) (w : World) :
    Calls Try.prog 9 #[.string s] w fun e w' => e = .returned (.bool true) ∧ Below w.heap.size w w' := by
  unfold maxLen at hs
  by_cases h60 : 60 < (s.size : Int)
  · go_enter Try.func9, Try.ntmps9
    go_wp2_with fail
    go_ret
    exact ⟨rfl, Below.refl _ _⟩
  · have PA := Lib.hid (fun w => parse_any s (by omega) w)
    have RA := Lib.hid (fun w => rparse_any s (by omega) w)
    generalize parN s = x1 at PA RA
    generalize parD s = x2 at PA RA
    generalize parE s = x3 at PA RA
    go_enter Try.func9, Try.ntmps9
    go_wp2_with fail
    refine (PA.out _).mono ?_
    rintro e w7 ⟨rfl, hb⟩
    have HB7 := Lib.hid hb
    clear hb
    go_wp2_with fail
    refine (RA.out _).mono ?_
    rintro e w8 ⟨rfl, hb8⟩
    have H8 := Lib.hid (((Held.nil w7).add x1 x2).later hb8)
    have HB8 := Lib.hid (bTr (bAl HB7.out _) hb8)
    clear hb8 HB7
    have heq : ∀ p q W, (binOp .eql 26 (.agg #[.int .i64 p, .int .i64 q]) (.agg #[.int .i64 p, .int .i64 q])).run Try.prog W = .ok (.bool true) W := fun p q W => by rw [eqlR, decide_eq_true rfl]
    obtain ⟨⟨u0, u1⟩, -, u2⟩ := H8.out.at_ (g := w7.heap.size) (p := x1) (q := x2) (by simp)
    go_wp2_with fail
    refine (awake_any _).mono ?_
    rintro e w9 ⟨rfl, hb9⟩
    have HF := Lib.hid (bTr (bAl HB8.out _) hb9)
    clear hb9
    go_wp2
    go_ret
    exact ⟨rfl, HF.out⟩
end Go.Proofs.Ytdohidlfcnpojaa
