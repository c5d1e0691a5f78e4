/-
  DERIVED. GIVEN WITH THE SEED: THE CARDS: each row of YtajiheohkmjhnaaGreatDoorRows.lean that lists a variable, with what it lists TIED to the program's text (the seventh form; the later family's looks); each row that meets fmt, with fmt's text TOLD by the authors' own Lean function (tested against real Go, not proved from fmt's source: count such statements apart). THE CARD IS WHAT COUNTS. Prove the row's statement (the work); the ties are given (YtajiheohkmjhnaaGreatDoorTie.lean); close each card by the builder's one call (the guide's Derived/Test/ToyasCard.lean, 'card_holds'). Laid BY PROGRAM, IN A SANDBOX (cutbox-door.mjs). By AI agents, Wed Nov 11 2026. No macro, syntax, notation, axiom, sorry.
-/
import Derived.Test.YtajiheohkmjhnaaGreatDoorRows
import GoSem.ClaimSeven
namespace Go.Proofs.YtajiheohkmjhnaaGreatDoor
namespace Rows

/-- THE TIED CARD OF 'awardingbodylaw01.RatioDecimalNear'. -/
def ratioDecimalNearCard : Claim7 := { stood := { row := ratioDecimalNearRow, standIns := [], harness := (true, "39d1dc9fb3926f2a49071e7a6f46f9f9d9f418f728348863b8ee74ab11bb6ea0"), looks := false }, kinds := [], alts := [], laidByText := true, laidKinds := [.data, .data, .data], laidTests := true, laidLooks := .later }
def RatioDecimalNearCardSaid : Prop := Claim7.holds Tryz.pinned (.plain (OpenSpec.ofChange ratioDecimalNearSpec)) ratioDecimalNearCard

/-- THE SECOND FORM's CARD OF 'awardingbodylaw01.RatioDecimalNear'. -/
def ratioDecimalNearUptoCard : Claim7 := { stood := { row := ratioDecimalNearUptoRow, standIns := [], harness := (true, "39d1dc9fb3926f2a49071e7a6f46f9f9d9f418f728348863b8ee74ab11bb6ea0"), looks := false }, kinds := [], alts := [], laidByText := true, laidKinds := [.data, .data, .data], laidTests := true, laidLooks := .later }
def RatioDecimalNearUptoCardSaid : Prop := Claim7.holds Tryz.pinned (.plain (OpenSpec.upto ratioDecimalNearSpec)) ratioDecimalNearUptoCard
end Rows
end Go.Proofs.YtajiheohkmjhnaaGreatDoor
