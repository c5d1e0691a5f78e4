/-
  What the first words of the translation say of the program: it is a cut, nothing is lifted, it may be entered.
-/
import Derived.Test.YtjdldkafghblmaaDoorRows
import Derived.WalkKit
import Derived.ProofKit
namespace Go.Proofs.YtjdldkafghblmaaDoor
set_option maxRecDepth 100000
def headList : List Char := [Char.ofNat 104, Char.ofNat 97, Char.ofNat 114, Char.ofNat 110, Char.ofNat 101, Char.ofNat 115, Char.ofNat 115, Char.ofNat 32, Char.ofNat 55, Char.ofNat 57, Char.ofNat 51, Char.ofNat 51, Char.ofNat 48, Char.ofNat 53, Char.ofNat 49, Char.ofNat 52, Char.ofNat 49, Char.ofNat 52, Char.ofNat 54, Char.ofNat 56, Char.ofNat 102, Char.ofNat 49, Char.ofNat 53, Char.ofNat 101, Char.ofNat 57, Char.ofNat 48, Char.ofNat 97, Char.ofNat 52, Char.ofNat 56, Char.ofNat 49, Char.ofNat 54, Char.ofNat 51, Char.ofNat 97, Char.ofNat 57, Char.ofNat 97, Char.ofNat 52, Char.ofNat 50, Char.ofNat 97, Char.ofNat 102, Char.ofNat 50, Char.ofNat 55, Char.ofNat 98, Char.ofNat 50, Char.ofNat 55, Char.ofNat 51, Char.ofNat 101, Char.ofNat 50, Char.ofNat 102, Char.ofNat 56, Char.ofNat 51, Char.ofNat 52, Char.ofNat 55, Char.ofNat 48, Char.ofNat 97, Char.ofNat 51, Char.ofNat 53, Char.ofNat 100, Char.ofNat 101, Char.ofNat 100, Char.ofNat 98, Char.ofNat 53, Char.ofNat 98, Char.ofNat 101, Char.ofNat 98, Char.ofNat 55, Char.ofNat 100, Char.ofNat 48, Char.ofNat 48, Char.ofNat 49, Char.ofNat 100, Char.ofNat 55, Char.ofNat 54, Char.ofNat 32, Char.ofNat 99, Char.ofNat 117, Char.ofNat 116, Char.ofNat 32, Char.ofNat 97, Char.ofNat 116, Char.ofNat 32, Char.ofNat 97, Char.ofNat 119, Char.ofNat 97, Char.ofNat 114, Char.ofNat 100, Char.ofNat 105, Char.ofNat 110, Char.ofNat 103, Char.ofNat 98, Char.ofNat 111, Char.ofNat 100, Char.ofNat 121, Char.ofNat 47, Char.ofNat 97, Char.ofNat 119, Char.ofNat 97, Char.ofNat 114, Char.ofNat 100, Char.ofNat 105, Char.ofNat 110, Char.ofNat 103, Char.ofNat 98, Char.ofNat 111, Char.ofNat 100, Char.ofNat 121, Char.ofNat 108, Char.ofNat 97, Char.ofNat 119, Char.ofNat 48, Char.ofNat 49, Char.ofNat 46, Char.ofNat 82, Char.ofNat 97, Char.ofNat 116, Char.ofNat 105, Char.ofNat 111, Char.ofNat 66, Char.ofNat 97, Char.ofNat 99, Char.ofNat 107, Char.ofNat 32, Char.ofNat 97, Char.ofNat 119, Char.ofNat 97, Char.ofNat 114, Char.ofNat 100, Char.ofNat 105, Char.ofNat 110, Char.ofNat 103, Char.ofNat 98, Char.ofNat 111, Char.ofNat 100, Char.ofNat 121, Char.ofNat 47, Char.ofNat 97, Char.ofNat 119, Char.ofNat 97, Char.ofNat 114, Char.ofNat 100, Char.ofNat 105, Char.ofNat 110, Char.ofNat 103, Char.ofNat 98, Char.ofNat 111, Char.ofNat 100, Char.ofNat 121, Char.ofNat 108, Char.ofNat 97, Char.ofNat 119, Char.ofNat 48, Char.ofNat 49, Char.ofNat 46, Char.ofNat 82, Char.ofNat 97, Char.ofNat 116, Char.ofNat 105, Char.ofNat 111, Char.ofNat 68, Char.ofNat 101, Char.ofNat 99, Char.ofNat 105, Char.ofNat 109, Char.ofNat 97, Char.ofNat 108, Char.ofNat 115]
theorem headIs : Tryd.prog.initOrder = String.ofList headList := by kernel_rfl
theorem headLetters : Tryd.prog.initOrder.toList = headList := (congrArg String.toList headIs).trans String.toList_ofList
def headRest : List (List Char) := (behindMainWord (wordsSigns headList)).tail
theorem headWord : behindMainWord (wordsSigns headList) = [Char.ofNat 99, Char.ofNat 117, Char.ofNat 116] :: headRest := by kernel_rfl
theorem gen_lifts (P : Program) (h : P.initOrder.toList = headList) : P.headLifts = [] := by
  unfold Program.headLifts
  rw [h]
  kernel_rfl
theorem gen_make (P : Program) (h : P.initOrder.toList = headList) : P.make = some .cut := by
  unfold Program.make
  rw [h, headWord]
  kernel_rfl
theorem gen_final (P : Program) (h : P.initOrder.toList = headList) : P.liftsFinal = false := by
  unfold Program.liftsFinal
  rw [gen_lifts P h, h]
  kernel_rfl
theorem gen_enter (P : Program) (h : P.initOrder.toList = headList) (h1 : P.laysLater = false) (h2 : P.bearsReflect = false) (h3 : P.doorFits [] = true) : P.mayEnter = true := by
  unfold Program.mayEnter
  rw [h, headWord, h1, h2]
  have e : stripLifts liftWords ([Char.ofNat 99, Char.ofNat 117, Char.ofNat 116] :: headRest) = ([], [Char.ofNat 99, Char.ofNat 117, Char.ofNat 116] :: headRest) := by kernel_rfl
  dsimp only
  rw [e]
  dsimp only
  rw [h3]
  simp
theorem hdFinal : Tryd.prog.liftsFinal = false := gen_final _ headLetters
theorem hdMake : Tryd.prog.make = some .cut := gen_make _ headLetters
theorem hdEnter : Tryd.prog.mayEnter = true := gen_enter _ headLetters (by kernel_rfl) (by kernel_rfl) (by kernel_rfl)
theorem hdLaid : laidOutB Tryd.prog = true := by kernel_rfl
theorem hdMaps : mapsRowed Tryd.prog = true := by kernel_rfl
theorem hdHeard : Tryd.prog.stopsHeard = true := by kernel_rfl
theorem both {a b : Bool} (h : a = true) (k : b = true) : (a && b) = true := by rw [h, k]; rfl
end Go.Proofs.YtjdldkafghblmaaDoor
