/-
  A slice of integers that came in, as rows.
-/
import Derived.Test.YtphlkeoailapcaaTape
import Derived.OpenShut
namespace Go.Proofs.Ytphlkeoailapcaa
open Go.RowKit
set_option linter.unusedSimpArgs false
set_option linter.unusedVariables false

/-- what is told of a slice of integers that came in: it is nil, or it leads to a row of c cells, the numbers zs -/
def IsRow (k : IntKind) (w : World) (a : Option Addr) (len cap : Nat) (zs : List Int) : Prop :=
  (a = none ∧ len = 0 ∧ cap = 0 ∧ zs = []) ∨
  ∃ x, a = some x ∧ len ≤ cap ∧ cap ≤ maxLen ∧ zs.length = cap ∧ (∀ i, i < zs.length → w.cell? (x.add i) = some (.int k (zs.getD i 0))) ∧ ∀ n ∈ zs, (Lit.int k n).wf = true
theorem row_of {w : World} {o : Option Addr} {n c : Nat} {zs : List Int} (h : IsRow .i64 w o n c zs) :
    RowB w w.heap.size o n (fun i => zs.getD i 0) ∧ n ≤ c ∧ c ≤ 9223372036854775807 ∧ (o = none → n = 0 ∧ c = 0) := by
  rcases h with ⟨rfl, rfl, rfl, rfl⟩ | ⟨x, rfl, hl, hm, hz, hc, hw⟩
  · exact ⟨fun i hi => absurd hi (by omega), by omega, by omega, fun _ => ⟨rfl, rfl⟩⟩
  · refine ⟨fun i hi => ?_, hl, by unfold maxLen at hm; exact hm, fun h => by cases h⟩
    have hci := hc i (by omega)
    have hc0 := hc 0 (by omega)
    obtain ⟨b, off, spot⟩ := x
    have hs : spot = none := by simpa [Addr.add] using World.cell?_spot hc0
    subst hs
    have hb := World.block_lt_of_cell? w _ hc0
    refine ⟨⟨b, off, rfl, by simpa [Addr.add] using hb, ?_⟩, ?_⟩
    · by_cases h0 : i = 0
      · subst h0; simpa [Addr.add] using hci
      · simpa [Addr.add, h0] using hci
    · have hmem : zs.getD i 0 ∈ zs := by
        rw [List.getD_eq_getElem?_getD, List.getElem?_eq_getElem (by omega)]
        exact List.getElem_mem _
      obtain ⟨a, b⟩ := bounds_i64 (hw _ hmem)
      exact ⟨a, Int.lt_of_le_of_lt b (by omega)⟩

end Go.Proofs.Ytphlkeoailapcaa
