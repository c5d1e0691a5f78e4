/-
  A region that draws its order, whose operations only read and whose callees leave all that was there as it was: one walk in the order of the text, in the class of the worlds that are as w was below its blocks.
-/
import Derived.Test.YtjdldkafghblmaaDoorMem
import Derived.BigQuiet
import Derived.Deep.QuietTactic
namespace Go.Proofs.YtjdldkafghblmaaDoor
open Go Go.RowKit
set_option linter.unusedSimpArgs false
set_option linter.unusedVariables false

structure BelowOf (w : World) where
  to : World
  h : Below w.heap.size w to

instance (w : World) : Inhabited (BelowOf w) := ⟨⟨w, Below.refl _ _⟩⟩
theorem wp_region_below {P : Program} {id : Nat} {Q : Exit → Act → World → Prop} {a : Act} {w : World} {l : List Oper} (hm : P.follows .mixedOrders = true) (hB : Region.lexB .any l.toArray = true)
    (h : wpQuiet P l.toArray (fun w' => ∃ p : BelowOf w, w' = p.to) (fun a' => ∀ w', (∃ p : BelowOf w, w' = p.to) → Q .normal a' w') l a) : (Code.region id l.toArray true).wp P Q a w :=
  wp_region_quiet (C := fun w' => ∃ p : BelowOf w, w' = p.to) hm hB ⟨⟨w.drew, bD1 (Below.refl _ _)⟩, rfl⟩ (by simpa using h)
theorem bq_call {P : Program} {f : FuncId} {args : Array Value} {w : World} {p : BelowOf w} {v : Value} (h : Calls P f args p.to fun e w' => e = .returned v ∧ Below p.to.heap.size p.to w') :
    Calls P f args p.to fun e w'' => e = .returned v ∧ ∃ q : BelowOf w, w'' = q.to := h.mono fun _ w' ⟨he, hb⟩ => ⟨he, ⟨w', bTr p.h hb⟩, rfl⟩
theorem bq_cell {w : World} {a : Addr} {v : Value} (hb : a.block < w.heap.size) (h : w.cell? a = some v) (p : BelowOf w) : p.to.cell? a = some v := (p.h.cell hb).trans h
end Go.Proofs.YtjdldkafghblmaaDoor
