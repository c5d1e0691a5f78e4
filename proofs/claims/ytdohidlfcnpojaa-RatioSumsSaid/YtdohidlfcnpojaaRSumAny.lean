/-
  The reference's Sum at any list.
-/
import Derived.Test.YtdohidlfcnpojaaRSumYes
set_option linter.unusedVariables false
set_option linter.unusedSimpArgs false
namespace Go.Proofs.Ytdohidlfcnpojaa
open Go.RowKit
set_option linter.unusedSimpArgs false
set_option linter.unusedVariables false

theorem rsum_any (o : Option Addr) (n c : Nat) (L : Nat → Fr) (w : World) (hr : RowR w w.heap.size o n L) (hn : n ≤ 100) (hi : ∀ i, i < n → -9223372036854775808 ≤ (L i).1 ∧ (L i).1 < 9223372036854775808 ∧ -9223372036854775808 ≤ (L i).2 ∧ (L i).2 < 9223372036854775808) :
    Calls Try.prog 24 #[.slice o n c] w fun e w' => e = .returned (.tuple #[.agg #[.int .i64 (smN L n), .int .i64 (smD L n)], .int .i64 (smE L n)]) ∧ Below w.heap.size w w' := by
  cases h : allV L n
  · refine (rsum_no o n c L w hr hn hi h).mono ?_
    rintro e w' ⟨rfl, hb⟩
    exact ⟨ret3 (res_no h _ _ _), hb⟩
  · refine (rsum_yes o n c L w hr hn ((allV_iff L n).1 h)).mono ?_
    rintro e w' ⟨rfl, hb⟩
    exact ⟨ret3 (res_yes h _ _ _), hb⟩
end Go.Proofs.Ytdohidlfcnpojaa
