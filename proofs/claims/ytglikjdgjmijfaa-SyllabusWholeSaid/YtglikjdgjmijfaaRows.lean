/-
  No cell of these rows narrows 'for every input' (looked for: loops, veiled, ifaces, maps, wideKeys, modest, calm, conditions, laid).
  DERIVED. THE GIVEN ROWS OF THIS SEAT. 8 by the template 'for every input the law returns true; each argument reads behind the call as it read before'; 0 by the template 'total and deterministic' (their statements: YtglikjdgjmijfaaTotals.lean).
  GIVEN WITH THE SEED: the statements are not yours to turn. If you find one false, say at which input.
  Laid BY PROGRAM, IN A SANDBOX (cutbox-rows.mjs): the forced cells as the released guide's own fill.sh prints them over the translation c2581b74053246ed… (all of the seat's roots in one cut). By AI agents, Wed Nov 11 2026. No macro, syntax, notation, axiom, sorry.
-/
import Derived.Test.YtglikjdgjmijfaaChecked
import GoSem.Claim
import GoSem.ClaimJoined
import GoSem.ClaimMapViews
import Derived.JoinedTies
import Derived.KernelRfl
namespace Go.Proofs.Ytglikjdgjmijfaa
/- THE CELL 'sum', in the pinned program and in every row, IS THE sha256 OF THE DUMP (.gsa) THAT YtglikjdgjmijfaaProg.lean LOADS. Nothing in Lean hashes anything: it is a label: what it is worth is what the hold of that sum in a sandbox is worth. -/
noncomputable def Try.pinned : Pinned := { name := "ytglikjdgjmijfaa", sum := "c2581b74053246ed8f4fbc7fe7679838b9ee2a515f8e8859db83e82887bd4408", checked := Try.checked }
namespace Rows
def none {H : Type} : Left H := { results := [], args := [] }

/-- 'awardingbodylaw05.SyllabusChecks': WHATEVER THE INPUT: true; the input reads as it did. -/
def syllabusChecksSpec : ChangeSpec := { name := "syllabusChecks", fn := fun _ => fun
  | [d] => { results := [.lit (.bool true)], args := [d] }
  | _ => none }
def syllabusChecksRow : OpenClaim := { program := "ytglikjdgjmijfaa", sum := "c2581b74053246ed8f4fbc7fe7679838b9ee2a515f8e8859db83e82887bd4408", func := "awardingbody/awardingbodylaw05.SyllabusChecks", spec := "syllabusChecks", unfollowed := true, recurses := true, apart := false }
def SyllabusChecksSaid : Prop := syllabusChecksRow.holds Try.pinned (OpenSpec.ofChange syllabusChecksSpec)

/-- ITS FALSE NEIGHBOUR: 'it returns false'. Refute it at one input. -/
def syllabusChecksWrong : ChangeSpec := { name := "syllabusChecks", fn := fun _ => fun
  | [d] => { results := [.lit (.bool false)], args := [d] }
  | _ => none }
def SyllabusChecksWrongFalsely : Prop := syllabusChecksRow.holds Try.pinned (OpenSpec.ofChange syllabusChecksWrong)

/-- 'awardingbodylaw05.SyllabusNames': WHATEVER THE INPUT: true; the input reads as it did. -/
def syllabusNamesSpec : ChangeSpec := { name := "syllabusNames", fn := fun _ => fun
  | [d1, d2, d3, d4, d5, d6] => { results := [.lit (.bool true)], args := [d1, d2, d3, d4, d5, d6] }
  | _ => none }
def syllabusNamesRow : OpenClaim := { program := "ytglikjdgjmijfaa", sum := "c2581b74053246ed8f4fbc7fe7679838b9ee2a515f8e8859db83e82887bd4408", func := "awardingbody/awardingbodylaw05.SyllabusNames", spec := "syllabusNames", unfollowed := true, recurses := true, apart := false }
def SyllabusNamesSaid : Prop := syllabusNamesRow.holds Try.pinned (OpenSpec.ofChange syllabusNamesSpec)

/-- ITS FALSE NEIGHBOUR: 'it returns false'. Refute it at one input. -/
def syllabusNamesWrong : ChangeSpec := { name := "syllabusNames", fn := fun _ => fun
  | [d1, d2, d3, d4, d5, d6] => { results := [.lit (.bool false)], args := [d1, d2, d3, d4, d5, d6] }
  | _ => none }
def SyllabusNamesWrongFalsely : Prop := syllabusNamesRow.holds Try.pinned (OpenSpec.ofChange syllabusNamesWrong)

/-- 'awardingbodylaw05.SyllabusTrees': WHATEVER THE INPUT: true; the input reads as it did. -/
def syllabusTreesSpec : ChangeSpec := { name := "syllabusTrees", fn := fun _ => fun
  | [d1, d2, d3] => { results := [.lit (.bool true)], args := [d1, d2, d3] }
  | _ => none }
def syllabusTreesRow : OpenClaim := { program := "ytglikjdgjmijfaa", sum := "c2581b74053246ed8f4fbc7fe7679838b9ee2a515f8e8859db83e82887bd4408", func := "awardingbody/awardingbodylaw05.SyllabusTrees", spec := "syllabusTrees", unfollowed := true, recurses := true, apart := false }
def SyllabusTreesSaid : Prop := syllabusTreesRow.holds Try.pinned (OpenSpec.ofChange syllabusTreesSpec)

/-- ITS FALSE NEIGHBOUR: 'it returns false'. Refute it at one input. -/
def syllabusTreesWrong : ChangeSpec := { name := "syllabusTrees", fn := fun _ => fun
  | [d1, d2, d3] => { results := [.lit (.bool false)], args := [d1, d2, d3] }
  | _ => none }
def SyllabusTreesWrongFalsely : Prop := syllabusTreesRow.holds Try.pinned (OpenSpec.ofChange syllabusTreesWrong)

/-- 'awardingbodylaw05.SyllabusRolls': WHATEVER THE INPUT: true; the input reads as it did. -/
def syllabusRollsSpec : ChangeSpec := { name := "syllabusRolls", fn := fun _ => fun
  | [d] => { results := [.lit (.bool true)], args := [d] }
  | _ => none }
def syllabusRollsRow : OpenClaim := { program := "ytglikjdgjmijfaa", sum := "c2581b74053246ed8f4fbc7fe7679838b9ee2a515f8e8859db83e82887bd4408", func := "awardingbody/awardingbodylaw05.SyllabusRolls", spec := "syllabusRolls", unfollowed := true, recurses := true, apart := false }
def SyllabusRollsSaid : Prop := syllabusRollsRow.holds Try.pinned (OpenSpec.ofChange syllabusRollsSpec)

/-- ITS FALSE NEIGHBOUR: 'it returns false'. Refute it at one input. -/
def syllabusRollsWrong : ChangeSpec := { name := "syllabusRolls", fn := fun _ => fun
  | [d] => { results := [.lit (.bool false)], args := [d] }
  | _ => none }
def SyllabusRollsWrongFalsely : Prop := syllabusRollsRow.holds Try.pinned (OpenSpec.ofChange syllabusRollsWrong)

/-- 'awardingbodylaw05.SyllabusShares': WHATEVER THE INPUT: true; the input reads as it did. -/
def syllabusSharesSpec : ChangeSpec := { name := "syllabusShares", fn := fun _ => fun
  | [d1, d2] => { results := [.lit (.bool true)], args := [d1, d2] }
  | _ => none }
def syllabusSharesRow : OpenClaim := { program := "ytglikjdgjmijfaa", sum := "c2581b74053246ed8f4fbc7fe7679838b9ee2a515f8e8859db83e82887bd4408", func := "awardingbody/awardingbodylaw05.SyllabusShares", spec := "syllabusShares", inPlace := ["math/bits.Add64", "math/bits.Sub64"], unfollowed := true, recurses := true, named := ["math/bits.divideError", "math/bits.overflowError"], apart := false }
def SyllabusSharesSaid : Prop := syllabusSharesRow.holds Try.pinned (OpenSpec.ofChange syllabusSharesSpec)

/-- ITS FALSE NEIGHBOUR: 'it returns false'. Refute it at one input. -/
def syllabusSharesWrong : ChangeSpec := { name := "syllabusShares", fn := fun _ => fun
  | [d1, d2] => { results := [.lit (.bool false)], args := [d1, d2] }
  | _ => none }
def SyllabusSharesWrongFalsely : Prop := syllabusSharesRow.holds Try.pinned (OpenSpec.ofChange syllabusSharesWrong)

/-- 'awardingbodylaw05.SyllabusInverse': WHATEVER THE INPUT: true; the input reads as it did. -/
def syllabusInverseSpec : ChangeSpec := { name := "syllabusInverse", fn := fun _ => fun
  | [d1, d2, d3] => { results := [.lit (.bool true)], args := [d1, d2, d3] }
  | _ => none }
def syllabusInverseRow : OpenClaim := { program := "ytglikjdgjmijfaa", sum := "c2581b74053246ed8f4fbc7fe7679838b9ee2a515f8e8859db83e82887bd4408", func := "awardingbody/awardingbodylaw05.SyllabusInverse", spec := "syllabusInverse", unfollowed := true, recurses := true, apart := false }
def SyllabusInverseSaid : Prop := syllabusInverseRow.holds Try.pinned (OpenSpec.ofChange syllabusInverseSpec)

/-- ITS FALSE NEIGHBOUR: 'it returns false'. Refute it at one input. -/
def syllabusInverseWrong : ChangeSpec := { name := "syllabusInverse", fn := fun _ => fun
  | [d1, d2, d3] => { results := [.lit (.bool false)], args := [d1, d2, d3] }
  | _ => none }
def SyllabusInverseWrongFalsely : Prop := syllabusInverseRow.holds Try.pinned (OpenSpec.ofChange syllabusInverseWrong)

/-- 'awardingbodylaw05.SyllabusRoots': WHATEVER THE INPUT: true; the input reads as it did. -/
def syllabusRootsSpec : ChangeSpec := { name := "syllabusRoots", fn := fun _ => fun
  | [d] => { results := [.lit (.bool true)], args := [d] }
  | _ => none }
def syllabusRootsRow : OpenClaim := { program := "ytglikjdgjmijfaa", sum := "c2581b74053246ed8f4fbc7fe7679838b9ee2a515f8e8859db83e82887bd4408", func := "awardingbody/awardingbodylaw05.SyllabusRoots", spec := "syllabusRoots", unfollowed := true, recurses := true, apart := false }
def SyllabusRootsSaid : Prop := syllabusRootsRow.holds Try.pinned (OpenSpec.ofChange syllabusRootsSpec)

/-- ITS FALSE NEIGHBOUR: 'it returns false'. Refute it at one input. -/
def syllabusRootsWrong : ChangeSpec := { name := "syllabusRoots", fn := fun _ => fun
  | [d] => { results := [.lit (.bool false)], args := [d] }
  | _ => none }
def SyllabusRootsWrongFalsely : Prop := syllabusRootsRow.holds Try.pinned (OpenSpec.ofChange syllabusRootsWrong)

/-- 'awardingbodylaw05.SyllabusWhole': WHATEVER THE INPUT: true; the input reads as it did. -/
def syllabusWholeSpec : ChangeSpec := { name := "syllabusWhole", fn := fun _ => fun
  | [d] => { results := [.lit (.bool true)], args := [d] }
  | _ => none }
def syllabusWholeRow : OpenClaim := { program := "ytglikjdgjmijfaa", sum := "c2581b74053246ed8f4fbc7fe7679838b9ee2a515f8e8859db83e82887bd4408", func := "awardingbody/awardingbodylaw05.SyllabusWhole", spec := "syllabusWhole", inPlace := ["math/bits.Add64"], unfollowed := true, recurses := true, named := ["math/bits.divideError", "math/bits.overflowError"], apart := false }
def SyllabusWholeSaid : Prop := syllabusWholeRow.holds Try.pinned (OpenSpec.ofChange syllabusWholeSpec)

/-- ITS FALSE NEIGHBOUR: 'it returns false'. Refute it at one input. -/
def syllabusWholeWrong : ChangeSpec := { name := "syllabusWhole", fn := fun _ => fun
  | [d] => { results := [.lit (.bool false)], args := [d] }
  | _ => none }
def SyllabusWholeWrongFalsely : Prop := syllabusWholeRow.holds Try.pinned (OpenSpec.ofChange syllabusWholeWrong)

/- THE SECOND FORM. 'bulk': how many values and letters a reading holds, each counted each time it is reached (what is shared counts as often as it is met; a slice's spare places count too). A statement '..UptoSaid' is the law's where the arguments, and the package variables that the reading takes, are together of bulk at most 1048576: NARROWER than '..Said'. Prove '..Said' where nothing that the law and all that it calls make is longer than what came in: it says more and counts as full. Else prove '..UptoSaid'. A law counts once. -/
mutual
def uptoBulk {H : Type} : DataW H → Nat
  | .lit (.string bytes) => bytes.length + 1
  | .lit _ => 1
  | .nil => 1
  | .ptr d => uptoBulk d + 1
  | .slice elems spare => uptoBulkAll elems + uptoBulkAll spare + 1
  | .agg parts => uptoBulkAll parts + 1
  | .iface _ d => uptoBulk d + 1
  | .map entries => uptoBulkEntries entries + 1
  | .held _ => 1
def uptoBulkAll {H : Type} : List (DataW H) → Nat
  | [] => 0
  | d :: r => uptoBulk d + uptoBulkAll r
def uptoBulkEntries {H : Type} : List (Lit × DataW H) → Nat
  | [] => 0
  | x :: r => uptoBulkEntry x + uptoBulkEntries r
def uptoBulkEntry {H : Type} : Lit × DataW H → Nat
  | (.string bytes, d) => bytes.length + uptoBulk d + 1
  | (_, d) => uptoBulk d + 1
 end
def uptoSmall : (H : Type) → List (DataW H) → Bool := fun _ ds => decide (uptoBulkAll ds ≤ 1048576)
def OpenSpec.upto (s : _root_.Go.ChangeSpec) : _root_.Go.OpenSpec := { _root_.Go.OpenSpec.ofChange s with cond := some uptoSmall }

/-- 'awardingbodylaw05.SyllabusChecks', WHERE WHAT IT READS IS OF BULK AT MOST 1048576: true; the input reads as it did. -/
def syllabusChecksUptoRow : OpenClaim := { program := "ytglikjdgjmijfaa", sum := "c2581b74053246ed8f4fbc7fe7679838b9ee2a515f8e8859db83e82887bd4408", func := "awardingbody/awardingbodylaw05.SyllabusChecks", spec := "syllabusChecks", unfollowed := true, recurses := true, apart := false, narrowed := true }
def SyllabusChecksUptoSaid : Prop := syllabusChecksUptoRow.holds Try.pinned (OpenSpec.upto syllabusChecksSpec)

/-- 'awardingbodylaw05.SyllabusNames', WHERE WHAT IT READS IS OF BULK AT MOST 1048576: true; the input reads as it did. -/
def syllabusNamesUptoRow : OpenClaim := { program := "ytglikjdgjmijfaa", sum := "c2581b74053246ed8f4fbc7fe7679838b9ee2a515f8e8859db83e82887bd4408", func := "awardingbody/awardingbodylaw05.SyllabusNames", spec := "syllabusNames", unfollowed := true, recurses := true, apart := false, narrowed := true }
def SyllabusNamesUptoSaid : Prop := syllabusNamesUptoRow.holds Try.pinned (OpenSpec.upto syllabusNamesSpec)

/-- 'awardingbodylaw05.SyllabusTrees', WHERE WHAT IT READS IS OF BULK AT MOST 1048576: true; the input reads as it did. -/
def syllabusTreesUptoRow : OpenClaim := { program := "ytglikjdgjmijfaa", sum := "c2581b74053246ed8f4fbc7fe7679838b9ee2a515f8e8859db83e82887bd4408", func := "awardingbody/awardingbodylaw05.SyllabusTrees", spec := "syllabusTrees", unfollowed := true, recurses := true, apart := false, narrowed := true }
def SyllabusTreesUptoSaid : Prop := syllabusTreesUptoRow.holds Try.pinned (OpenSpec.upto syllabusTreesSpec)

/-- 'awardingbodylaw05.SyllabusRolls', WHERE WHAT IT READS IS OF BULK AT MOST 1048576: true; the input reads as it did. -/
def syllabusRollsUptoRow : OpenClaim := { program := "ytglikjdgjmijfaa", sum := "c2581b74053246ed8f4fbc7fe7679838b9ee2a515f8e8859db83e82887bd4408", func := "awardingbody/awardingbodylaw05.SyllabusRolls", spec := "syllabusRolls", unfollowed := true, recurses := true, apart := false, narrowed := true }
def SyllabusRollsUptoSaid : Prop := syllabusRollsUptoRow.holds Try.pinned (OpenSpec.upto syllabusRollsSpec)

/-- 'awardingbodylaw05.SyllabusShares', WHERE WHAT IT READS IS OF BULK AT MOST 1048576: true; the input reads as it did. -/
def syllabusSharesUptoRow : OpenClaim := { program := "ytglikjdgjmijfaa", sum := "c2581b74053246ed8f4fbc7fe7679838b9ee2a515f8e8859db83e82887bd4408", func := "awardingbody/awardingbodylaw05.SyllabusShares", spec := "syllabusShares", inPlace := ["math/bits.Add64", "math/bits.Sub64"], unfollowed := true, recurses := true, named := ["math/bits.divideError", "math/bits.overflowError"], apart := false, narrowed := true }
def SyllabusSharesUptoSaid : Prop := syllabusSharesUptoRow.holds Try.pinned (OpenSpec.upto syllabusSharesSpec)

/-- 'awardingbodylaw05.SyllabusInverse', WHERE WHAT IT READS IS OF BULK AT MOST 1048576: true; the input reads as it did. -/
def syllabusInverseUptoRow : OpenClaim := { program := "ytglikjdgjmijfaa", sum := "c2581b74053246ed8f4fbc7fe7679838b9ee2a515f8e8859db83e82887bd4408", func := "awardingbody/awardingbodylaw05.SyllabusInverse", spec := "syllabusInverse", unfollowed := true, recurses := true, apart := false, narrowed := true }
def SyllabusInverseUptoSaid : Prop := syllabusInverseUptoRow.holds Try.pinned (OpenSpec.upto syllabusInverseSpec)

/-- 'awardingbodylaw05.SyllabusRoots', WHERE WHAT IT READS IS OF BULK AT MOST 1048576: true; the input reads as it did. -/
def syllabusRootsUptoRow : OpenClaim := { program := "ytglikjdgjmijfaa", sum := "c2581b74053246ed8f4fbc7fe7679838b9ee2a515f8e8859db83e82887bd4408", func := "awardingbody/awardingbodylaw05.SyllabusRoots", spec := "syllabusRoots", unfollowed := true, recurses := true, apart := false, narrowed := true }
def SyllabusRootsUptoSaid : Prop := syllabusRootsUptoRow.holds Try.pinned (OpenSpec.upto syllabusRootsSpec)

/-- 'awardingbodylaw05.SyllabusWhole', WHERE WHAT IT READS IS OF BULK AT MOST 1048576: true; the input reads as it did. -/
def syllabusWholeUptoRow : OpenClaim := { program := "ytglikjdgjmijfaa", sum := "c2581b74053246ed8f4fbc7fe7679838b9ee2a515f8e8859db83e82887bd4408", func := "awardingbody/awardingbodylaw05.SyllabusWhole", spec := "syllabusWhole", inPlace := ["math/bits.Add64"], unfollowed := true, recurses := true, named := ["math/bits.divideError", "math/bits.overflowError"], apart := false, narrowed := true }
def SyllabusWholeUptoSaid : Prop := syllabusWholeUptoRow.holds Try.pinned (OpenSpec.upto syllabusWholeSpec)

end Rows
end Go.Proofs.Ytglikjdgjmijfaa
