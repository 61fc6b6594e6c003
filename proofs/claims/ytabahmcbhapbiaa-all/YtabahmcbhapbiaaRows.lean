/-
  No cell of these rows narrows 'for every input' (looked for: loops, veiled, ifaces, maps, wideKeys, modest, calm, conditions, laid).
  DERIVED. THE GIVEN ROWS OF THIS SEAT. 9 by the template 'for every input the law returns true; each argument reads behind the call as it read before'; 0 by the template 'total and deterministic' (their statements: YtabahmcbhapbiaaTotals.lean).
  GIVEN WITH THE SEED: the statements are not yours to turn. If you find one false, say at which input.
  Laid BY PROGRAM, IN A SANDBOX (cutbox-rows.mjs): the forced cells as the released guide's own fill.sh prints them over the translation 388ea2b5c82c5360… (all of the seat's roots in one cut). By AI agents, Wed Nov 11 2026. No macro, syntax, notation, axiom, sorry.
-/
import Derived.Test.YtabahmcbhapbiaaChecked
import GoSem.Claim
import GoSem.ClaimJoined
import GoSem.ClaimMapViews
import Derived.JoinedTies
import Derived.KernelRfl
namespace Go.Proofs.Ytabahmcbhapbiaa
/- THE CELL 'sum', in the pinned program and in every row, IS THE sha256 OF THE DUMP (.gsa) THAT YtabahmcbhapbiaaProg.lean LOADS. Nothing in Lean hashes anything: it is a label: what it is worth is what the hold of that sum in a sandbox is worth. -/
noncomputable def Try.pinned : Pinned := { name := "ytabahmcbhapbiaa", sum := "388ea2b5c82c53604351e1f788dce5fda6f2220c0a36be0c6a46c7f6746b2007", checked := Try.checked }
namespace Rows
def none {H : Type} : Left H := { results := [], args := [] }

/-- 'mootlaw.Ops': WHATEVER THE INPUT: true; the input reads as it did. -/
def opsSpec : ChangeSpec := { name := "ops", fn := fun _ => fun
  | [d] => { results := [.lit (.bool true)], args := [d] }
  | _ => none }
def opsRow : OpenClaim := { program := "ytabahmcbhapbiaa", sum := "388ea2b5c82c53604351e1f788dce5fda6f2220c0a36be0c6a46c7f6746b2007", func := "moot/mootlaw.Ops", spec := "ops", inPlace := ["slices.overlaps[byte]"], unfollowed := true, recurses := true, apart := false }
def OpsSaid : Prop := opsRow.holds Try.pinned (OpenSpec.ofChange opsSpec)

/-- ITS FALSE NEIGHBOUR: 'it returns false'. Refute it at one input. -/
def opsWrong : ChangeSpec := { name := "ops", fn := fun _ => fun
  | [d] => { results := [.lit (.bool false)], args := [d] }
  | _ => none }
def OpsWrongFalsely : Prop := opsRow.holds Try.pinned (OpenSpec.ofChange opsWrong)

/-- 'mootkeep.Square': WHATEVER THE INPUT: true; the input reads as it did. -/
def squareSpec : ChangeSpec := { name := "square", fn := fun _ => fun
  | [d1, d2, d3] => { results := [.lit (.bool true)], args := [d1, d2, d3] }
  | _ => none }
def squareRow : OpenClaim := { program := "ytabahmcbhapbiaa", sum := "388ea2b5c82c53604351e1f788dce5fda6f2220c0a36be0c6a46c7f6746b2007", func := "moot/mootkeep.Square", spec := "square", inPlace := ["slices.overlaps[byte]"], unfollowed := true, recurses := true, apart := false }
def SquareSaid : Prop := squareRow.holds Try.pinned (OpenSpec.ofChange squareSpec)

/-- ITS FALSE NEIGHBOUR: 'it returns false'. Refute it at one input. -/
def squareWrong : ChangeSpec := { name := "square", fn := fun _ => fun
  | [d1, d2, d3] => { results := [.lit (.bool false)], args := [d1, d2, d3] }
  | _ => none }
def SquareWrongFalsely : Prop := squareRow.holds Try.pinned (OpenSpec.ofChange squareWrong)

/-- 'mootkeep.Undone': WHATEVER THE INPUT: true; the input reads as it did. -/
def undoneSpec : ChangeSpec := { name := "undone", fn := fun _ => fun
  | [d1, d2, d3] => { results := [.lit (.bool true)], args := [d1, d2, d3] }
  | _ => none }
def undoneRow : OpenClaim := { program := "ytabahmcbhapbiaa", sum := "388ea2b5c82c53604351e1f788dce5fda6f2220c0a36be0c6a46c7f6746b2007", func := "moot/mootkeep.Undone", spec := "undone", inPlace := ["slices.overlaps[byte]"], unfollowed := true, recurses := true, apart := false }
def UndoneSaid : Prop := undoneRow.holds Try.pinned (OpenSpec.ofChange undoneSpec)

/-- ITS FALSE NEIGHBOUR: 'it returns false'. Refute it at one input. -/
def undoneWrong : ChangeSpec := { name := "undone", fn := fun _ => fun
  | [d1, d2, d3] => { results := [.lit (.bool false)], args := [d1, d2, d3] }
  | _ => none }
def UndoneWrongFalsely : Prop := undoneRow.holds Try.pinned (OpenSpec.ofChange undoneWrong)

/-- 'mootlaw.Talks': WHATEVER THE INPUT: true; the input reads as it did. -/
def talksSpec : ChangeSpec := { name := "talks", fn := fun _ => fun
  | [d] => { results := [.lit (.bool true)], args := [d] }
  | _ => none }
def talksRow : OpenClaim := { program := "ytabahmcbhapbiaa", sum := "388ea2b5c82c53604351e1f788dce5fda6f2220c0a36be0c6a46c7f6746b2007", func := "moot/mootlaw.Talks", spec := "talks", inPlace := ["slices.overlaps[byte]"], unfollowed := true, recurses := true, apart := false }
def TalksSaid : Prop := talksRow.holds Try.pinned (OpenSpec.ofChange talksSpec)

/-- ITS FALSE NEIGHBOUR: 'it returns false'. Refute it at one input. -/
def talksWrong : ChangeSpec := { name := "talks", fn := fun _ => fun
  | [d] => { results := [.lit (.bool false)], args := [d] }
  | _ => none }
def TalksWrongFalsely : Prop := talksRow.holds Try.pinned (OpenSpec.ofChange talksWrong)

/-- 'mootkeep.Converged': WHATEVER THE INPUT: true; the input reads as it did. -/
def convergedSpec : ChangeSpec := { name := "converged", fn := fun _ => fun
  | [d1, d2, d3] => { results := [.lit (.bool true)], args := [d1, d2, d3] }
  | _ => none }
def convergedRow : OpenClaim := { program := "ytabahmcbhapbiaa", sum := "388ea2b5c82c53604351e1f788dce5fda6f2220c0a36be0c6a46c7f6746b2007", func := "moot/mootkeep.Converged", spec := "converged", inPlace := ["slices.overlaps[byte]"], unfollowed := true, recurses := true, apart := false }
def ConvergedSaid : Prop := convergedRow.holds Try.pinned (OpenSpec.ofChange convergedSpec)

/-- ITS FALSE NEIGHBOUR: 'it returns false'. Refute it at one input. -/
def convergedWrong : ChangeSpec := { name := "converged", fn := fun _ => fun
  | [d1, d2, d3] => { results := [.lit (.bool false)], args := [d1, d2, d3] }
  | _ => none }
def ConvergedWrongFalsely : Prop := convergedRow.holds Try.pinned (OpenSpec.ofChange convergedWrong)

/-- 'mootkeep.Kept': WHATEVER THE INPUT: true; the input reads as it did. -/
def keptSpec : ChangeSpec := { name := "kept", fn := fun _ => fun
  | [d1, d2, d3] => { results := [.lit (.bool true)], args := [d1, d2, d3] }
  | _ => none }
def keptRow : OpenClaim := { program := "ytabahmcbhapbiaa", sum := "388ea2b5c82c53604351e1f788dce5fda6f2220c0a36be0c6a46c7f6746b2007", func := "moot/mootkeep.Kept", spec := "kept", inPlace := ["slices.overlaps[byte]"], unfollowed := true, recurses := true, apart := false }
def KeptSaid : Prop := keptRow.holds Try.pinned (OpenSpec.ofChange keptSpec)

/-- ITS FALSE NEIGHBOUR: 'it returns false'. Refute it at one input. -/
def keptWrong : ChangeSpec := { name := "kept", fn := fun _ => fun
  | [d1, d2, d3] => { results := [.lit (.bool false)], args := [d1, d2, d3] }
  | _ => none }
def KeptWrongFalsely : Prop := keptRow.holds Try.pinned (OpenSpec.ofChange keptWrong)

/-- 'mootlaw.All': WHATEVER THE INPUT: true; the input reads as it did. -/
def allSpec : ChangeSpec := { name := "all", fn := fun _ => fun
  | [d] => { results := [.lit (.bool true)], args := [d] }
  | _ => none }
def allRow : OpenClaim := { program := "ytabahmcbhapbiaa", sum := "388ea2b5c82c53604351e1f788dce5fda6f2220c0a36be0c6a46c7f6746b2007", func := "moot/mootlaw.All", spec := "all", inPlace := ["slices.overlaps[byte]"], unfollowed := true, recurses := true, apart := false }
def AllSaid : Prop := allRow.holds Try.pinned (OpenSpec.ofChange allSpec)

/-- ITS FALSE NEIGHBOUR: 'it returns false'. Refute it at one input. -/
def allWrong : ChangeSpec := { name := "all", fn := fun _ => fun
  | [d] => { results := [.lit (.bool false)], args := [d] }
  | _ => none }
def AllWrongFalsely : Prop := allRow.holds Try.pinned (OpenSpec.ofChange allWrong)

/-- 'mootkeep.Replayed': WHATEVER THE INPUT: true; the input reads as it did. -/
def replayedSpec : ChangeSpec := { name := "replayed", fn := fun _ => fun
  | [d1, d2, d3] => { results := [.lit (.bool true)], args := [d1, d2, d3] }
  | _ => none }
def replayedRow : OpenClaim := { program := "ytabahmcbhapbiaa", sum := "388ea2b5c82c53604351e1f788dce5fda6f2220c0a36be0c6a46c7f6746b2007", func := "moot/mootkeep.Replayed", spec := "replayed", inPlace := ["slices.overlaps[byte]"], unfollowed := true, recurses := true, apart := false }
def ReplayedSaid : Prop := replayedRow.holds Try.pinned (OpenSpec.ofChange replayedSpec)

/-- ITS FALSE NEIGHBOUR: 'it returns false'. Refute it at one input. -/
def replayedWrong : ChangeSpec := { name := "replayed", fn := fun _ => fun
  | [d1, d2, d3] => { results := [.lit (.bool false)], args := [d1, d2, d3] }
  | _ => none }
def ReplayedWrongFalsely : Prop := replayedRow.holds Try.pinned (OpenSpec.ofChange replayedWrong)

/-- 'mootkeep.Alone': WHATEVER THE INPUT: true; the input reads as it did. -/
def aloneSpec : ChangeSpec := { name := "alone", fn := fun _ => fun
  | [d1, d2, d3, d4] => { results := [.lit (.bool true)], args := [d1, d2, d3, d4] }
  | _ => none }
def aloneRow : OpenClaim := { program := "ytabahmcbhapbiaa", sum := "388ea2b5c82c53604351e1f788dce5fda6f2220c0a36be0c6a46c7f6746b2007", func := "moot/mootkeep.Alone", spec := "alone", inPlace := ["slices.overlaps[byte]"], unfollowed := true, recurses := true, apart := false }
def AloneSaid : Prop := aloneRow.holds Try.pinned (OpenSpec.ofChange aloneSpec)

/-- ITS FALSE NEIGHBOUR: 'it returns false'. Refute it at one input. -/
def aloneWrong : ChangeSpec := { name := "alone", fn := fun _ => fun
  | [d1, d2, d3, d4] => { results := [.lit (.bool false)], args := [d1, d2, d3, d4] }
  | _ => none }
def AloneWrongFalsely : Prop := aloneRow.holds Try.pinned (OpenSpec.ofChange aloneWrong)

/- THE SECOND FORM. 'bulk': how many values and letters a reading holds, each counted each time it is reached (what is shared counts as often as it is met; a slice's spare places count too). A statement '..UptoSaid' is the law's where the arguments, and the package variables that the reading takes, are together of bulk at most 1048576: NARROWER than '..Said'. Prove '..Said' where nothing that the law and all that it calls make is longer than what came in: it says more and counts as full. Else prove '..UptoSaid'. A law counts once. -/
mutual
def uptoBulk {H : Type} : DataW H → Nat
  | .lit (.string bytes) => bytes.length + 1
  | .lit _ => 1
  | .nil => 1
  | .ptr d => uptoBulk d + 1
  | .slice elems spare => uptoBulkAll elems + uptoBulkAll spare + 1
  | .agg parts => uptoBulkAll parts + 1
  | .iface _ d => uptoBulk d + 1
  | .map entries => uptoBulkEntries entries + 1
  | .held _ => 1
def uptoBulkAll {H : Type} : List (DataW H) → Nat
  | [] => 0
  | d :: r => uptoBulk d + uptoBulkAll r
def uptoBulkEntries {H : Type} : List (Lit × DataW H) → Nat
  | [] => 0
  | x :: r => uptoBulkEntry x + uptoBulkEntries r
def uptoBulkEntry {H : Type} : Lit × DataW H → Nat
  | (.string bytes, d) => bytes.length + uptoBulk d + 1
  | (_, d) => uptoBulk d + 1
 end
def uptoSmall : (H : Type) → List (DataW H) → Bool := fun _ ds => decide (uptoBulkAll ds ≤ 1048576)
def OpenSpec.upto (s : _root_.Go.ChangeSpec) : _root_.Go.OpenSpec := { _root_.Go.OpenSpec.ofChange s with cond := some uptoSmall }

/-- 'mootlaw.Ops', WHERE WHAT IT READS IS OF BULK AT MOST 1048576: true; the input reads as it did. -/
def opsUptoRow : OpenClaim := { program := "ytabahmcbhapbiaa", sum := "388ea2b5c82c53604351e1f788dce5fda6f2220c0a36be0c6a46c7f6746b2007", func := "moot/mootlaw.Ops", spec := "ops", inPlace := ["slices.overlaps[byte]"], unfollowed := true, recurses := true, apart := false, narrowed := true }
def OpsUptoSaid : Prop := opsUptoRow.holds Try.pinned (OpenSpec.upto opsSpec)

/-- 'mootkeep.Square', WHERE WHAT IT READS IS OF BULK AT MOST 1048576: true; the input reads as it did. -/
def squareUptoRow : OpenClaim := { program := "ytabahmcbhapbiaa", sum := "388ea2b5c82c53604351e1f788dce5fda6f2220c0a36be0c6a46c7f6746b2007", func := "moot/mootkeep.Square", spec := "square", inPlace := ["slices.overlaps[byte]"], unfollowed := true, recurses := true, apart := false, narrowed := true }
def SquareUptoSaid : Prop := squareUptoRow.holds Try.pinned (OpenSpec.upto squareSpec)

/-- 'mootkeep.Undone', WHERE WHAT IT READS IS OF BULK AT MOST 1048576: true; the input reads as it did. -/
def undoneUptoRow : OpenClaim := { program := "ytabahmcbhapbiaa", sum := "388ea2b5c82c53604351e1f788dce5fda6f2220c0a36be0c6a46c7f6746b2007", func := "moot/mootkeep.Undone", spec := "undone", inPlace := ["slices.overlaps[byte]"], unfollowed := true, recurses := true, apart := false, narrowed := true }
def UndoneUptoSaid : Prop := undoneUptoRow.holds Try.pinned (OpenSpec.upto undoneSpec)

/-- 'mootlaw.Talks', WHERE WHAT IT READS IS OF BULK AT MOST 1048576: true; the input reads as it did. -/
def talksUptoRow : OpenClaim := { program := "ytabahmcbhapbiaa", sum := "388ea2b5c82c53604351e1f788dce5fda6f2220c0a36be0c6a46c7f6746b2007", func := "moot/mootlaw.Talks", spec := "talks", inPlace := ["slices.overlaps[byte]"], unfollowed := true, recurses := true, apart := false, narrowed := true }
def TalksUptoSaid : Prop := talksUptoRow.holds Try.pinned (OpenSpec.upto talksSpec)

/-- 'mootkeep.Converged', WHERE WHAT IT READS IS OF BULK AT MOST 1048576: true; the input reads as it did. -/
def convergedUptoRow : OpenClaim := { program := "ytabahmcbhapbiaa", sum := "388ea2b5c82c53604351e1f788dce5fda6f2220c0a36be0c6a46c7f6746b2007", func := "moot/mootkeep.Converged", spec := "converged", inPlace := ["slices.overlaps[byte]"], unfollowed := true, recurses := true, apart := false, narrowed := true }
def ConvergedUptoSaid : Prop := convergedUptoRow.holds Try.pinned (OpenSpec.upto convergedSpec)

/-- 'mootkeep.Kept', WHERE WHAT IT READS IS OF BULK AT MOST 1048576: true; the input reads as it did. -/
def keptUptoRow : OpenClaim := { program := "ytabahmcbhapbiaa", sum := "388ea2b5c82c53604351e1f788dce5fda6f2220c0a36be0c6a46c7f6746b2007", func := "moot/mootkeep.Kept", spec := "kept", inPlace := ["slices.overlaps[byte]"], unfollowed := true, recurses := true, apart := false, narrowed := true }
def KeptUptoSaid : Prop := keptUptoRow.holds Try.pinned (OpenSpec.upto keptSpec)

/-- 'mootlaw.All', WHERE WHAT IT READS IS OF BULK AT MOST 1048576: true; the input reads as it did. -/
def allUptoRow : OpenClaim := { program := "ytabahmcbhapbiaa", sum := "388ea2b5c82c53604351e1f788dce5fda6f2220c0a36be0c6a46c7f6746b2007", func := "moot/mootlaw.All", spec := "all", inPlace := ["slices.overlaps[byte]"], unfollowed := true, recurses := true, apart := false, narrowed := true }
def AllUptoSaid : Prop := allUptoRow.holds Try.pinned (OpenSpec.upto allSpec)

/-- 'mootkeep.Replayed', WHERE WHAT IT READS IS OF BULK AT MOST 1048576: true; the input reads as it did. -/
def replayedUptoRow : OpenClaim := { program := "ytabahmcbhapbiaa", sum := "388ea2b5c82c53604351e1f788dce5fda6f2220c0a36be0c6a46c7f6746b2007", func := "moot/mootkeep.Replayed", spec := "replayed", inPlace := ["slices.overlaps[byte]"], unfollowed := true, recurses := true, apart := false, narrowed := true }
def ReplayedUptoSaid : Prop := replayedUptoRow.holds Try.pinned (OpenSpec.upto replayedSpec)

/-- 'mootkeep.Alone', WHERE WHAT IT READS IS OF BULK AT MOST 1048576: true; the input reads as it did. -/
def aloneUptoRow : OpenClaim := { program := "ytabahmcbhapbiaa", sum := "388ea2b5c82c53604351e1f788dce5fda6f2220c0a36be0c6a46c7f6746b2007", func := "moot/mootkeep.Alone", spec := "alone", inPlace := ["slices.overlaps[byte]"], unfollowed := true, recurses := true, apart := false, narrowed := true }
def AloneUptoSaid : Prop := aloneUptoRow.holds Try.pinned (OpenSpec.upto aloneSpec)

end Rows
end Go.Proofs.Ytabahmcbhapbiaa
