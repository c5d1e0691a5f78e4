/-
  Picks among three and four operations that stand ready.
-/
import Derived.Test.YtjdldkafghblmaaDoorHeldTail
namespace Go.Proofs.YtjdldkafghblmaaDoor
open Go.RowKit
set_option linter.unusedSimpArgs false
set_option linter.unusedVariables false

section
variable {P : Program} {md : Region.Mode} {ops : Array Oper} {Q : Exit → Act → World → Prop} {S : World → Prop}
def StepAt (P : Program) (md : Region.Mode) (ops : Array Oper) (Q : Exit → Act → World → Prop) (S : World → Prop) (n g : Nat) (R : Act → World → Prop) (f : Nat) (s : Array Bool) (a : Act) (w : World) (i : Nat) (o : Oper) : Prop :=
  ∀ K' : Act → World → Prop, Shut (∀ a w, S w → HeadW P md ops Q S n g R f (s.setIfInBounds i true) a w → K' a w) → if Region.wanted o (yielded ops a.tmps) = true then Oper.wp P o a w K' Q else K' (a.put o.dst undef) w
theorem HeadW.some_ {n g f : Nat} {R : Act → World → Prop} {s : Array Bool} {a : Act} {w : World} (L : List Nat) (hB : (decide (Region.ready md ops s = L) && L.all (fun i => decide (i < n)) && !L.isEmpty) = true)
    (h : ∀ i ∈ L, ∃ o, ops[i]? = some o ∧ StepAt P md ops Q S n g R f s a w i o) : HeadW P md ops Q S n g R (f + 1) s a w := by
  simp only [Bool.and_eq_true, decide_eq_true_eq] at hB
  obtain ⟨⟨hB1, hB2⟩, hB3⟩ := hB
  intro inv
  have hne : L ≠ [] := by intro e; rw [e] at hB3; cases hB3
  refine ⟨by rw [hB1]; exact hne, fun k hk => ?_⟩
  have hk' : k ∈ L := by rw [hB1] at hk; exact hk
  have hkn : k < n := by simpa using List.all_eq_true.1 hB2 k hk'
  obtain ⟨o, ho, hs⟩ := h k hk'
  exact ⟨hkn, wpOp_step ho fun K' hK => hs K' fun a w hS hW => hK a w ⟨hS, hW (inv.set hk hkn)⟩⟩
end
end Go.Proofs.YtjdldkafghblmaaDoor
