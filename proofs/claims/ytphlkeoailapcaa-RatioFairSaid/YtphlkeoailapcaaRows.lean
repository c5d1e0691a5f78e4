/-
  No cell of these rows narrows 'for every input' (looked for: loops, veiled, ifaces, maps, wideKeys, modest, calm, conditions, laid).
  DERIVED. THE GIVEN ROWS OF THIS SEAT. 8 by the template 'for every input the law returns true; each argument reads behind the call as it read before'; 0 by the template 'total and deterministic' (their statements: YtphlkeoailapcaaTotals.lean).
  GIVEN WITH THE SEED: the statements are not yours to turn. If you find one false, say at which input.
  Laid BY PROGRAM, IN A SANDBOX (cutbox-rows.mjs): the forced cells as the released guide's own fill.sh prints them over the translation 41b7ccf2d10a2b1d… (all of the seat's roots in one cut). By AI agents, Wed Nov 11 2026. No macro, syntax, notation, axiom, sorry.
-/
import Derived.Test.YtphlkeoailapcaaChecked
import GoSem.Claim
import GoSem.ClaimJoined
import GoSem.ClaimMapViews
import Derived.JoinedTies
import Derived.KernelRfl
namespace Go.Proofs.Ytphlkeoailapcaa
/- THE CELL 'sum', in the pinned program and in every row, IS THE sha256 OF THE DUMP (.gsa) THAT YtphlkeoailapcaaProg.lean LOADS. Nothing in Lean hashes anything: it is a label: what it is worth is what the hold of that sum in a sandbox is worth. -/
noncomputable def Try.pinned : Pinned := { name := "ytphlkeoailapcaa", sum := "41b7ccf2d10a2b1db03b6b8deefe74896c10fe3aa9f12d144c0926a9d44fc73d", checked := Try.checked }
namespace Rows
def none {H : Type} : Left H := { results := [], args := [] }

/-- 'awardingbodylaw01.RatioAdds': WHATEVER THE INPUT: true; the input reads as it did. -/
def ratioAddsSpec : ChangeSpec := { name := "ratioAdds", fn := fun _ => fun
  | [d] => { results := [.lit (.bool true)], args := [d] }
  | _ => none }
def ratioAddsRow : OpenClaim := { program := "ytphlkeoailapcaa", sum := "41b7ccf2d10a2b1db03b6b8deefe74896c10fe3aa9f12d144c0926a9d44fc73d", func := "awardingbody/awardingbodylaw01.RatioAdds", spec := "ratioAdds", inPlace := ["math/bits.Sub64", "math/bits.Add64"], unfollowed := true, recurses := true, named := ["math/bits.divideError", "math/bits.overflowError"], apart := false }
def RatioAddsSaid : Prop := ratioAddsRow.holds Try.pinned (OpenSpec.ofChange ratioAddsSpec)

/-- ITS FALSE NEIGHBOUR: 'it returns false'. Refute it at one input. -/
def ratioAddsWrong : ChangeSpec := { name := "ratioAdds", fn := fun _ => fun
  | [d] => { results := [.lit (.bool false)], args := [d] }
  | _ => none }
def RatioAddsWrongFalsely : Prop := ratioAddsRow.holds Try.pinned (OpenSpec.ofChange ratioAddsWrong)

/-- 'awardingbodylaw01.RatioMultiplies': WHATEVER THE INPUT: true; the input reads as it did. -/
def ratioMultipliesSpec : ChangeSpec := { name := "ratioMultiplies", fn := fun _ => fun
  | [d] => { results := [.lit (.bool true)], args := [d] }
  | _ => none }
def ratioMultipliesRow : OpenClaim := { program := "ytphlkeoailapcaa", sum := "41b7ccf2d10a2b1db03b6b8deefe74896c10fe3aa9f12d144c0926a9d44fc73d", func := "awardingbody/awardingbodylaw01.RatioMultiplies", spec := "ratioMultiplies", inPlace := ["math/bits.Sub64", "math/bits.Add64"], unfollowed := true, recurses := true, named := ["math/bits.divideError", "math/bits.overflowError"], apart := false }
def RatioMultipliesSaid : Prop := ratioMultipliesRow.holds Try.pinned (OpenSpec.ofChange ratioMultipliesSpec)

/-- ITS FALSE NEIGHBOUR: 'it returns false'. Refute it at one input. -/
def ratioMultipliesWrong : ChangeSpec := { name := "ratioMultiplies", fn := fun _ => fun
  | [d] => { results := [.lit (.bool false)], args := [d] }
  | _ => none }
def RatioMultipliesWrongFalsely : Prop := ratioMultipliesRow.holds Try.pinned (OpenSpec.ofChange ratioMultipliesWrong)

/-- 'awardingbodylaw01.RatioSums': WHATEVER THE INPUT: true; the input reads as it did. -/
def ratioSumsSpec : ChangeSpec := { name := "ratioSums", fn := fun _ => fun
  | [d] => { results := [.lit (.bool true)], args := [d] }
  | _ => none }
def ratioSumsRow : OpenClaim := { program := "ytphlkeoailapcaa", sum := "41b7ccf2d10a2b1db03b6b8deefe74896c10fe3aa9f12d144c0926a9d44fc73d", func := "awardingbody/awardingbodylaw01.RatioSums", spec := "ratioSums", inPlace := ["math/bits.Sub64", "math/bits.Add64"], unfollowed := true, recurses := true, named := ["math/bits.divideError", "math/bits.overflowError"], apart := false }
def RatioSumsSaid : Prop := ratioSumsRow.holds Try.pinned (OpenSpec.ofChange ratioSumsSpec)

/-- ITS FALSE NEIGHBOUR: 'it returns false'. Refute it at one input. -/
def ratioSumsWrong : ChangeSpec := { name := "ratioSums", fn := fun _ => fun
  | [d] => { results := [.lit (.bool false)], args := [d] }
  | _ => none }
def RatioSumsWrongFalsely : Prop := ratioSumsRow.holds Try.pinned (OpenSpec.ofChange ratioSumsWrong)

/-- 'awardingbodylaw01.RatioCompares': WHATEVER THE INPUT: true; the input reads as it did. -/
def ratioComparesSpec : ChangeSpec := { name := "ratioCompares", fn := fun _ => fun
  | [d1, d2, d3, d4] => { results := [.lit (.bool true)], args := [d1, d2, d3, d4] }
  | _ => none }
def ratioComparesRow : OpenClaim := { program := "ytphlkeoailapcaa", sum := "41b7ccf2d10a2b1db03b6b8deefe74896c10fe3aa9f12d144c0926a9d44fc73d", func := "awardingbody/awardingbodylaw01.RatioCompares", spec := "ratioCompares", inPlace := ["math/bits.Add64", "math/bits.Sub64"], unfollowed := true, recurses := true, named := ["math/bits.divideError", "math/bits.overflowError"], apart := false }
def RatioComparesSaid : Prop := ratioComparesRow.holds Try.pinned (OpenSpec.ofChange ratioComparesSpec)

/-- ITS FALSE NEIGHBOUR: 'it returns false'. Refute it at one input. -/
def ratioComparesWrong : ChangeSpec := { name := "ratioCompares", fn := fun _ => fun
  | [d1, d2, d3, d4] => { results := [.lit (.bool false)], args := [d1, d2, d3, d4] }
  | _ => none }
def RatioComparesWrongFalsely : Prop := ratioComparesRow.holds Try.pinned (OpenSpec.ofChange ratioComparesWrong)

/-- 'awardingbodylaw01.RatioApportions': WHATEVER THE INPUT: true; the input reads as it did. -/
def ratioApportionsSpec : ChangeSpec := { name := "ratioApportions", fn := fun _ => fun
  | [d1, d2] => { results := [.lit (.bool true)], args := [d1, d2] }
  | _ => none }
def ratioApportionsRow : OpenClaim := { program := "ytphlkeoailapcaa", sum := "41b7ccf2d10a2b1db03b6b8deefe74896c10fe3aa9f12d144c0926a9d44fc73d", func := "awardingbody/awardingbodylaw01.RatioApportions", spec := "ratioApportions", inPlace := ["math/bits.Add64"], unfollowed := true, recurses := true, named := ["math/bits.divideError", "math/bits.overflowError"], apart := false }
def RatioApportionsSaid : Prop := ratioApportionsRow.holds Try.pinned (OpenSpec.ofChange ratioApportionsSpec)

/-- ITS FALSE NEIGHBOUR: 'it returns false'. Refute it at one input. -/
def ratioApportionsWrong : ChangeSpec := { name := "ratioApportions", fn := fun _ => fun
  | [d1, d2] => { results := [.lit (.bool false)], args := [d1, d2] }
  | _ => none }
def RatioApportionsWrongFalsely : Prop := ratioApportionsRow.holds Try.pinned (OpenSpec.ofChange ratioApportionsWrong)

/-- 'awardingbodylaw01.RatioFair': WHATEVER THE INPUT: true; the input reads as it did. -/
def ratioFairSpec : ChangeSpec := { name := "ratioFair", fn := fun _ => fun
  | [d1, d2] => { results := [.lit (.bool true)], args := [d1, d2] }
  | _ => none }
def ratioFairRow : OpenClaim := { program := "ytphlkeoailapcaa", sum := "41b7ccf2d10a2b1db03b6b8deefe74896c10fe3aa9f12d144c0926a9d44fc73d", func := "awardingbody/awardingbodylaw01.RatioFair", spec := "ratioFair", inPlace := ["math/bits.Add64"], unfollowed := true, recurses := true, named := ["math/bits.divideError", "math/bits.overflowError"], apart := false }
def RatioFairSaid : Prop := ratioFairRow.holds Try.pinned (OpenSpec.ofChange ratioFairSpec)

/-- ITS FALSE NEIGHBOUR: 'it returns false'. Refute it at one input. -/
def ratioFairWrong : ChangeSpec := { name := "ratioFair", fn := fun _ => fun
  | [d1, d2] => { results := [.lit (.bool false)], args := [d1, d2] }
  | _ => none }
def RatioFairWrongFalsely : Prop := ratioFairRow.holds Try.pinned (OpenSpec.ofChange ratioFairWrong)

/-- 'awardingbodylaw01.RatioParses': WHATEVER THE INPUT: true; the input reads as it did. -/
def ratioParsesSpec : ChangeSpec := { name := "ratioParses", fn := fun _ => fun
  | [d] => { results := [.lit (.bool true)], args := [d] }
  | _ => none }
def ratioParsesRow : OpenClaim := { program := "ytphlkeoailapcaa", sum := "41b7ccf2d10a2b1db03b6b8deefe74896c10fe3aa9f12d144c0926a9d44fc73d", func := "awardingbody/awardingbodylaw01.RatioParses", spec := "ratioParses", inPlace := ["internal/bytealg.IndexByteString", "internal/bytealg.IndexString", "math/bits.Add64", "math/bits.Sub64"], unfollowed := true, recurses := true, named := ["internal/bytealg.MaxLen", "math/bits.divideError", "math/bits.overflowError"], apart := false }
def RatioParsesSaid : Prop := ratioParsesRow.holds Try.pinned (OpenSpec.ofChange ratioParsesSpec)

/-- ITS FALSE NEIGHBOUR: 'it returns false'. Refute it at one input. -/
def ratioParsesWrong : ChangeSpec := { name := "ratioParses", fn := fun _ => fun
  | [d] => { results := [.lit (.bool false)], args := [d] }
  | _ => none }
def RatioParsesWrongFalsely : Prop := ratioParsesRow.holds Try.pinned (OpenSpec.ofChange ratioParsesWrong)

/-- 'awardingbodylaw01.RatioReads': WHATEVER THE INPUT: true; the input reads as it did. -/
def ratioReadsSpec : ChangeSpec := { name := "ratioReads", fn := fun _ => fun
  | [d] => { results := [.lit (.bool true)], args := [d] }
  | _ => none }
def ratioReadsRow : OpenClaim := { program := "ytphlkeoailapcaa", sum := "41b7ccf2d10a2b1db03b6b8deefe74896c10fe3aa9f12d144c0926a9d44fc73d", func := "awardingbody/awardingbodylaw01.RatioReads", spec := "ratioReads", inPlace := ["internal/bytealg.IndexByteString", "internal/bytealg.IndexString", "math/bits.Add64", "math/bits.Sub64"], unfollowed := true, recurses := true, named := ["internal/bytealg.MaxLen", "math/bits.divideError", "math/bits.overflowError"], apart := false }
def RatioReadsSaid : Prop := ratioReadsRow.holds Try.pinned (OpenSpec.ofChange ratioReadsSpec)

/-- ITS FALSE NEIGHBOUR: 'it returns false'. Refute it at one input. -/
def ratioReadsWrong : ChangeSpec := { name := "ratioReads", fn := fun _ => fun
  | [d] => { results := [.lit (.bool false)], args := [d] }
  | _ => none }
def RatioReadsWrongFalsely : Prop := ratioReadsRow.holds Try.pinned (OpenSpec.ofChange ratioReadsWrong)

/- THE SECOND FORM. 'bulk': how many values and letters a reading holds, each counted each time it is reached (what is shared counts as often as it is met; a slice's spare places count too). A statement '..UptoSaid' is the law's where the arguments, and the package variables that the reading takes, are together of bulk at most 1048576: NARROWER than '..Said'. Prove '..Said' where nothing that the law and all that it calls make is longer than what came in: it says more and counts as full. Else prove '..UptoSaid'. A law counts once. -/
mutual
def uptoBulk {H : Type} : DataW H → Nat
  | .lit (.string bytes) => bytes.length + 1
  | .lit _ => 1
  | .nil => 1
  | .ptr d => uptoBulk d + 1
  | .slice elems spare => uptoBulkAll elems + uptoBulkAll spare + 1
  | .agg parts => uptoBulkAll parts + 1
  | .iface _ d => uptoBulk d + 1
  | .map entries => uptoBulkEntries entries + 1
  | .held _ => 1
def uptoBulkAll {H : Type} : List (DataW H) → Nat
  | [] => 0
  | d :: r => uptoBulk d + uptoBulkAll r
def uptoBulkEntries {H : Type} : List (Lit × DataW H) → Nat
  | [] => 0
  | x :: r => uptoBulkEntry x + uptoBulkEntries r
def uptoBulkEntry {H : Type} : Lit × DataW H → Nat
  | (.string bytes, d) => bytes.length + uptoBulk d + 1
  | (_, d) => uptoBulk d + 1
 end
def uptoSmall : (H : Type) → List (DataW H) → Bool := fun _ ds => decide (uptoBulkAll ds ≤ 1048576)
def OpenSpec.upto (s : _root_.Go.ChangeSpec) : _root_.Go.OpenSpec := { _root_.Go.OpenSpec.ofChange s with cond := some uptoSmall }

/-- 'awardingbodylaw01.RatioAdds', WHERE WHAT IT READS IS OF BULK AT MOST 1048576: true; the input reads as it did. -/
def ratioAddsUptoRow : OpenClaim := { program := "ytphlkeoailapcaa", sum := "41b7ccf2d10a2b1db03b6b8deefe74896c10fe3aa9f12d144c0926a9d44fc73d", func := "awardingbody/awardingbodylaw01.RatioAdds", spec := "ratioAdds", inPlace := ["math/bits.Sub64", "math/bits.Add64"], unfollowed := true, recurses := true, named := ["math/bits.divideError", "math/bits.overflowError"], apart := false, narrowed := true }
def RatioAddsUptoSaid : Prop := ratioAddsUptoRow.holds Try.pinned (OpenSpec.upto ratioAddsSpec)

/-- 'awardingbodylaw01.RatioMultiplies', WHERE WHAT IT READS IS OF BULK AT MOST 1048576: true; the input reads as it did. -/
def ratioMultipliesUptoRow : OpenClaim := { program := "ytphlkeoailapcaa", sum := "41b7ccf2d10a2b1db03b6b8deefe74896c10fe3aa9f12d144c0926a9d44fc73d", func := "awardingbody/awardingbodylaw01.RatioMultiplies", spec := "ratioMultiplies", inPlace := ["math/bits.Sub64", "math/bits.Add64"], unfollowed := true, recurses := true, named := ["math/bits.divideError", "math/bits.overflowError"], apart := false, narrowed := true }
def RatioMultipliesUptoSaid : Prop := ratioMultipliesUptoRow.holds Try.pinned (OpenSpec.upto ratioMultipliesSpec)

/-- 'awardingbodylaw01.RatioSums', WHERE WHAT IT READS IS OF BULK AT MOST 1048576: true; the input reads as it did. -/
def ratioSumsUptoRow : OpenClaim := { program := "ytphlkeoailapcaa", sum := "41b7ccf2d10a2b1db03b6b8deefe74896c10fe3aa9f12d144c0926a9d44fc73d", func := "awardingbody/awardingbodylaw01.RatioSums", spec := "ratioSums", inPlace := ["math/bits.Sub64", "math/bits.Add64"], unfollowed := true, recurses := true, named := ["math/bits.divideError", "math/bits.overflowError"], apart := false, narrowed := true }
def RatioSumsUptoSaid : Prop := ratioSumsUptoRow.holds Try.pinned (OpenSpec.upto ratioSumsSpec)

/-- 'awardingbodylaw01.RatioCompares', WHERE WHAT IT READS IS OF BULK AT MOST 1048576: true; the input reads as it did. -/
def ratioComparesUptoRow : OpenClaim := { program := "ytphlkeoailapcaa", sum := "41b7ccf2d10a2b1db03b6b8deefe74896c10fe3aa9f12d144c0926a9d44fc73d", func := "awardingbody/awardingbodylaw01.RatioCompares", spec := "ratioCompares", inPlace := ["math/bits.Add64", "math/bits.Sub64"], unfollowed := true, recurses := true, named := ["math/bits.divideError", "math/bits.overflowError"], apart := false, narrowed := true }
def RatioComparesUptoSaid : Prop := ratioComparesUptoRow.holds Try.pinned (OpenSpec.upto ratioComparesSpec)

/-- 'awardingbodylaw01.RatioApportions', WHERE WHAT IT READS IS OF BULK AT MOST 1048576: true; the input reads as it did. -/
def ratioApportionsUptoRow : OpenClaim := { program := "ytphlkeoailapcaa", sum := "41b7ccf2d10a2b1db03b6b8deefe74896c10fe3aa9f12d144c0926a9d44fc73d", func := "awardingbody/awardingbodylaw01.RatioApportions", spec := "ratioApportions", inPlace := ["math/bits.Add64"], unfollowed := true, recurses := true, named := ["math/bits.divideError", "math/bits.overflowError"], apart := false, narrowed := true }
def RatioApportionsUptoSaid : Prop := ratioApportionsUptoRow.holds Try.pinned (OpenSpec.upto ratioApportionsSpec)

/-- 'awardingbodylaw01.RatioFair', WHERE WHAT IT READS IS OF BULK AT MOST 1048576: true; the input reads as it did. -/
def ratioFairUptoRow : OpenClaim := { program := "ytphlkeoailapcaa", sum := "41b7ccf2d10a2b1db03b6b8deefe74896c10fe3aa9f12d144c0926a9d44fc73d", func := "awardingbody/awardingbodylaw01.RatioFair", spec := "ratioFair", inPlace := ["math/bits.Add64"], unfollowed := true, recurses := true, named := ["math/bits.divideError", "math/bits.overflowError"], apart := false, narrowed := true }
def RatioFairUptoSaid : Prop := ratioFairUptoRow.holds Try.pinned (OpenSpec.upto ratioFairSpec)

/-- 'awardingbodylaw01.RatioParses', WHERE WHAT IT READS IS OF BULK AT MOST 1048576: true; the input reads as it did. -/
def ratioParsesUptoRow : OpenClaim := { program := "ytphlkeoailapcaa", sum := "41b7ccf2d10a2b1db03b6b8deefe74896c10fe3aa9f12d144c0926a9d44fc73d", func := "awardingbody/awardingbodylaw01.RatioParses", spec := "ratioParses", inPlace := ["internal/bytealg.IndexByteString", "internal/bytealg.IndexString", "math/bits.Add64", "math/bits.Sub64"], unfollowed := true, recurses := true, named := ["internal/bytealg.MaxLen", "math/bits.divideError", "math/bits.overflowError"], apart := false, narrowed := true }
def RatioParsesUptoSaid : Prop := ratioParsesUptoRow.holds Try.pinned (OpenSpec.upto ratioParsesSpec)

/-- 'awardingbodylaw01.RatioReads', WHERE WHAT IT READS IS OF BULK AT MOST 1048576: true; the input reads as it did. -/
def ratioReadsUptoRow : OpenClaim := { program := "ytphlkeoailapcaa", sum := "41b7ccf2d10a2b1db03b6b8deefe74896c10fe3aa9f12d144c0926a9d44fc73d", func := "awardingbody/awardingbodylaw01.RatioReads", spec := "ratioReads", inPlace := ["internal/bytealg.IndexByteString", "internal/bytealg.IndexString", "math/bits.Add64", "math/bits.Sub64"], unfollowed := true, recurses := true, named := ["internal/bytealg.MaxLen", "math/bits.divideError", "math/bits.overflowError"], apart := false, narrowed := true }
def RatioReadsUptoSaid : Prop := ratioReadsUptoRow.holds Try.pinned (OpenSpec.upto ratioReadsSpec)

end Rows
end Go.Proofs.Ytphlkeoailapcaa
