/-
  What the statements of this seat need of the fractions: W2.val, W2.bd, W2.of, W2.mkLow.
-/
import Derived.Test.YtajiheohkmjhnaaGreatDoorNkC
import Derived.Test.YtajiheohkmjhnaaGreatDoorMath
import Derived.Test.YtajiheohkmjhnaaGreatDoorMem
import Derived.Test.YtajiheohkmjhnaaGreatDoorNums
import Derived.Test.YtajiheohkmjhnaaGreatDoorTape
import Derived.WalkKit
import Derived.Below
import Derived.Laws.OwnMore
import Derived.Deep.Draws
import Derived.Laws.Rows
import Derived.Lib.Hide
import Derived.WalkLawsBesides
import Derived.WalkSpells
import Derived.BigQuiet
import Derived.Deep.QuietTactic
import Derived.Laws.Bits64
import Derived.Deep.LoopGhost
import Derived.Outline
import Derived.Shelf.Spec.BitsCarry
import Derived.Deep.RegionHeld3
import Derived.Laws.BitsAllLaws
import Derived.RegionTactic
import Derived.BigRegion
import Derived.Deep.DeepCutAuto
namespace Go.Proofs.YtajiheohkmjhnaaGreatDoor
set_option linter.unusedSimpArgs false
set_option linter.unusedVariables false
open Go.RowKit
theorem W2.bd {h l : Int} {x : Nat} (H : W2 h l x) : x < 340282366920938463463374607431768211456 := by
  obtain ⟨a, b, c, d, e⟩ := H; omega
theorem W2.mkLow {x : Nat} (hx : x < 18446744073709551616) : W2 0 (x : Int) x := ⟨by omega, by omega, by omega, by omega, by omega⟩
section
variable {w wr w' : World} {ah al bh bl qh ql rh rl : Int}
end
end Go.Proofs.YtajiheohkmjhnaaGreatDoor
