/-
  Structs of fractions that a walk owns, and their comparison.
-/
import Derived.Test.YtlocgjhblcgpbaaHeld
import Derived.Test.YtlocgjhblcgpbaaAwaken
namespace Go.Proofs.Ytlocgjhblcgpbaa
open Go.RowKit
set_option linter.unusedSimpArgs false
set_option linter.unusedVariables false

theorem Held.addAt {w : World} {l : List (Nat × Int × Int)} (h : Held w l) (p q : Int) {n : Nat} (e : n = w.heap.size) : Held (w.alloc (.cells #[.int .i64 p, .int .i64 q] 26)) ((n, p, q) :: l) := by subst e; exact h.add p q
theorem Held.lt {w : World} {l : List (Nat × Int × Int)} (h : Held w l) {g : Nat} {p q : Int} (hm : (g, p, q) ∈ l) : g < w.heap.size := (h _ hm).lt
theorem gBelow {a b : World} {g B : Nat} (h : a.grownBy b (some g)) (hB : B ≤ g) (hs : B ≤ a.heap.size) : Below B a b := bGr h hB hs
theorem neqR (a b c d : Int) (w : World) : (binOp .neq 26 (.agg #[.int .i64 a, .int .i64 b]) (.agg #[.int .i64 c, .int .i64 d])).run Try.prog w = .ok (.bool (!decide ((a, b) = (c, d)))) w := by
  have h := eqlR a b c d w
  rw [run_eql_struct] at h
  rw [run_neq_struct]
  cases hr : ((Op.equalIn 10000 26 (.agg #[.int .i64 a, .int .i64 b]) (.agg #[.int .i64 c, .int .i64 d])).run Try.prog w) with
  | ok r w1 =>
    rw [hr] at h
    simp only [Result.andThen_ok, Result.ok.injEq, Value.bool.injEq] at h ⊢
    obtain ⟨h1, h2⟩ := h
    exact ⟨by rw [h1], h2⟩
  | halt s w1 => rw [hr] at h; simp at h
end Go.Proofs.Ytlocgjhblcgpbaa
