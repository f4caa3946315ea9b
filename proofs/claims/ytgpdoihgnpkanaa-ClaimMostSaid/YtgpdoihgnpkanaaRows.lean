/-
  No cell of these rows narrows 'for every input' (looked for: loops, veiled, ifaces, maps, wideKeys, modest, calm, conditions, laid).
  DERIVED. THE GIVEN ROWS OF THIS SEAT. 8 by the template 'for every input the law returns true; each argument reads behind the call as it read before'; 0 by the template 'total and deterministic' (their statements: YtgpdoihgnpkanaaTotals.lean).
  GIVEN WITH THE SEED: the statements are not yours to turn. If you find one false, say at which input.
  Laid BY PROGRAM, IN A SANDBOX (cutbox-rows.mjs): the forced cells as the released guide's own fill.sh prints them over the translation 018addde3bbd90fd… (all of the seat's roots in one cut). By AI agents, Wed Nov 11 2026. No macro, syntax, notation, axiom, sorry.
-/
import Derived.Test.YtgpdoihgnpkanaaChecked
import GoSem.Claim
import GoSem.ClaimJoined
import GoSem.ClaimMapViews
import Derived.JoinedTies
import Derived.KernelRfl
namespace Go.Proofs.Ytgpdoihgnpkanaa
/- THE CELL 'sum', in the pinned program and in every row, IS THE sha256 OF THE DUMP (.gsa) THAT YtgpdoihgnpkanaaProg.lean LOADS. Nothing in Lean hashes anything: it is a label: what it is worth is what the hold of that sum in a sandbox is worth. -/
noncomputable def Try.pinned : Pinned := { name := "ytgpdoihgnpkanaa", sum := "018addde3bbd90fd3a68fcb2868e17429a735d29feba1af8a9b12ee2fbbe20de", checked := Try.checked }
namespace Rows
def none {H : Type} : Left H := { results := [], args := [] }

/-- 'stackyardlaw06.ClaimFinds': WHATEVER THE INPUT: true; the input reads as it did. -/
def claimFindsSpec : ChangeSpec := { name := "claimFinds", fn := fun _ => fun
  | [d1, d2, d3, d4, d5] => { results := [.lit (.bool true)], args := [d1, d2, d3, d4, d5] }
  | _ => none }
def claimFindsRow : OpenClaim := { program := "ytgpdoihgnpkanaa", sum := "018addde3bbd90fd3a68fcb2868e17429a735d29feba1af8a9b12ee2fbbe20de", func := "stackyard/stackyardlaw06.ClaimFinds", spec := "claimFinds", apart := false }
def ClaimFindsSaid : Prop := claimFindsRow.holds Try.pinned (OpenSpec.ofChange claimFindsSpec)

/-- ITS FALSE NEIGHBOUR: 'it returns false'. Refute it at one input. -/
def claimFindsWrong : ChangeSpec := { name := "claimFinds", fn := fun _ => fun
  | [d1, d2, d3, d4, d5] => { results := [.lit (.bool false)], args := [d1, d2, d3, d4, d5] }
  | _ => none }
def ClaimFindsWrongFalsely : Prop := claimFindsRow.holds Try.pinned (OpenSpec.ofChange claimFindsWrong)

/-- 'stackyardlaw06.ClaimMost': WHATEVER THE INPUT: true; the input reads as it did. -/
def claimMostSpec : ChangeSpec := { name := "claimMost", fn := fun _ => fun
  | [d1, d2, d3] => { results := [.lit (.bool true)], args := [d1, d2, d3] }
  | _ => none }
def claimMostRow : OpenClaim := { program := "ytgpdoihgnpkanaa", sum := "018addde3bbd90fd3a68fcb2868e17429a735d29feba1af8a9b12ee2fbbe20de", func := "stackyard/stackyardlaw06.ClaimMost", spec := "claimMost", apart := false }
def ClaimMostSaid : Prop := claimMostRow.holds Try.pinned (OpenSpec.ofChange claimMostSpec)

/-- ITS FALSE NEIGHBOUR: 'it returns false'. Refute it at one input. -/
def claimMostWrong : ChangeSpec := { name := "claimMost", fn := fun _ => fun
  | [d1, d2, d3] => { results := [.lit (.bool false)], args := [d1, d2, d3] }
  | _ => none }
def ClaimMostWrongFalsely : Prop := claimMostRow.holds Try.pinned (OpenSpec.ofChange claimMostWrong)

/-- 'stackyardlaw06.ClaimOwns': WHATEVER THE INPUT: true; the input reads as it did. -/
def claimOwnsSpec : ChangeSpec := { name := "claimOwns", fn := fun _ => fun
  | [d1, d2, d3, d4] => { results := [.lit (.bool true)], args := [d1, d2, d3, d4] }
  | _ => none }
def claimOwnsRow : OpenClaim := { program := "ytgpdoihgnpkanaa", sum := "018addde3bbd90fd3a68fcb2868e17429a735d29feba1af8a9b12ee2fbbe20de", func := "stackyard/stackyardlaw06.ClaimOwns", spec := "claimOwns", apart := false }
def ClaimOwnsSaid : Prop := claimOwnsRow.holds Try.pinned (OpenSpec.ofChange claimOwnsSpec)

/-- ITS FALSE NEIGHBOUR: 'it returns false'. Refute it at one input. -/
def claimOwnsWrong : ChangeSpec := { name := "claimOwns", fn := fun _ => fun
  | [d1, d2, d3, d4] => { results := [.lit (.bool false)], args := [d1, d2, d3, d4] }
  | _ => none }
def ClaimOwnsWrongFalsely : Prop := claimOwnsRow.holds Try.pinned (OpenSpec.ofChange claimOwnsWrong)

/-- 'stackyardlaw07.SnapSteps': WHATEVER THE INPUT: true; the input reads as it did. -/
def snapStepsSpec : ChangeSpec := { name := "snapSteps", fn := fun _ => fun
  | [d1, d2, d3, d4, d5] => { results := [.lit (.bool true)], args := [d1, d2, d3, d4, d5] }
  | _ => none }
def snapStepsRow : OpenClaim := { program := "ytgpdoihgnpkanaa", sum := "018addde3bbd90fd3a68fcb2868e17429a735d29feba1af8a9b12ee2fbbe20de", func := "stackyard/stackyardlaw07.SnapSteps", spec := "snapSteps", apart := false }
def SnapStepsSaid : Prop := snapStepsRow.holds Try.pinned (OpenSpec.ofChange snapStepsSpec)

/-- ITS FALSE NEIGHBOUR: 'it returns false'. Refute it at one input. -/
def snapStepsWrong : ChangeSpec := { name := "snapSteps", fn := fun _ => fun
  | [d1, d2, d3, d4, d5] => { results := [.lit (.bool false)], args := [d1, d2, d3, d4, d5] }
  | _ => none }
def SnapStepsWrongFalsely : Prop := snapStepsRow.holds Try.pinned (OpenSpec.ofChange snapStepsWrong)

/-- 'stackyardlaw07.SnapOnes': WHATEVER THE INPUT: true; the input reads as it did. -/
def snapOnesSpec : ChangeSpec := { name := "snapOnes", fn := fun _ => fun
  | [d1, d2, d3, d4, d5] => { results := [.lit (.bool true)], args := [d1, d2, d3, d4, d5] }
  | _ => none }
def snapOnesRow : OpenClaim := { program := "ytgpdoihgnpkanaa", sum := "018addde3bbd90fd3a68fcb2868e17429a735d29feba1af8a9b12ee2fbbe20de", func := "stackyard/stackyardlaw07.SnapOnes", spec := "snapOnes", apart := false }
def SnapOnesSaid : Prop := snapOnesRow.holds Try.pinned (OpenSpec.ofChange snapOnesSpec)

/-- ITS FALSE NEIGHBOUR: 'it returns false'. Refute it at one input. -/
def snapOnesWrong : ChangeSpec := { name := "snapOnes", fn := fun _ => fun
  | [d1, d2, d3, d4, d5] => { results := [.lit (.bool false)], args := [d1, d2, d3, d4, d5] }
  | _ => none }
def SnapOnesWrongFalsely : Prop := snapOnesRow.holds Try.pinned (OpenSpec.ofChange snapOnesWrong)

/-- 'stackyardlaw07.SnapEnds': WHATEVER THE INPUT: true; the input reads as it did. -/
def snapEndsSpec : ChangeSpec := { name := "snapEnds", fn := fun _ => fun
  | [d1, d2, d3, d4, d5] => { results := [.lit (.bool true)], args := [d1, d2, d3, d4, d5] }
  | _ => none }
def snapEndsRow : OpenClaim := { program := "ytgpdoihgnpkanaa", sum := "018addde3bbd90fd3a68fcb2868e17429a735d29feba1af8a9b12ee2fbbe20de", func := "stackyard/stackyardlaw07.SnapEnds", spec := "snapEnds", apart := false }
def SnapEndsSaid : Prop := snapEndsRow.holds Try.pinned (OpenSpec.ofChange snapEndsSpec)

/-- ITS FALSE NEIGHBOUR: 'it returns false'. Refute it at one input. -/
def snapEndsWrong : ChangeSpec := { name := "snapEnds", fn := fun _ => fun
  | [d1, d2, d3, d4, d5] => { results := [.lit (.bool false)], args := [d1, d2, d3, d4, d5] }
  | _ => none }
def SnapEndsWrongFalsely : Prop := snapEndsRow.holds Try.pinned (OpenSpec.ofChange snapEndsWrong)

/-- 'stackyardlaw07.SnapQuiet': WHATEVER THE INPUT: true; the input reads as it did. -/
def snapQuietSpec : ChangeSpec := { name := "snapQuiet", fn := fun _ => fun
  | [d1, d2, d3, d4, d5] => { results := [.lit (.bool true)], args := [d1, d2, d3, d4, d5] }
  | _ => none }
def snapQuietRow : OpenClaim := { program := "ytgpdoihgnpkanaa", sum := "018addde3bbd90fd3a68fcb2868e17429a735d29feba1af8a9b12ee2fbbe20de", func := "stackyard/stackyardlaw07.SnapQuiet", spec := "snapQuiet", apart := false }
def SnapQuietSaid : Prop := snapQuietRow.holds Try.pinned (OpenSpec.ofChange snapQuietSpec)

/-- ITS FALSE NEIGHBOUR: 'it returns false'. Refute it at one input. -/
def snapQuietWrong : ChangeSpec := { name := "snapQuiet", fn := fun _ => fun
  | [d1, d2, d3, d4, d5] => { results := [.lit (.bool false)], args := [d1, d2, d3, d4, d5] }
  | _ => none }
def SnapQuietWrongFalsely : Prop := snapQuietRow.holds Try.pinned (OpenSpec.ofChange snapQuietWrong)

/-- 'stackyardlaw07.SnapNever': WHATEVER THE INPUT: true; the input reads as it did. -/
def snapNeverSpec : ChangeSpec := { name := "snapNever", fn := fun _ => fun
  | [d1, d2, d3, d4, d5] => { results := [.lit (.bool true)], args := [d1, d2, d3, d4, d5] }
  | _ => none }
def snapNeverRow : OpenClaim := { program := "ytgpdoihgnpkanaa", sum := "018addde3bbd90fd3a68fcb2868e17429a735d29feba1af8a9b12ee2fbbe20de", func := "stackyard/stackyardlaw07.SnapNever", spec := "snapNever", apart := false }
def SnapNeverSaid : Prop := snapNeverRow.holds Try.pinned (OpenSpec.ofChange snapNeverSpec)

/-- ITS FALSE NEIGHBOUR: 'it returns false'. Refute it at one input. -/
def snapNeverWrong : ChangeSpec := { name := "snapNever", fn := fun _ => fun
  | [d1, d2, d3, d4, d5] => { results := [.lit (.bool false)], args := [d1, d2, d3, d4, d5] }
  | _ => none }
def SnapNeverWrongFalsely : Prop := snapNeverRow.holds Try.pinned (OpenSpec.ofChange snapNeverWrong)

/- THE SECOND FORM. 'bulk': how many values and letters a reading holds, each counted each time it is reached (what is shared counts as often as it is met; a slice's spare places count too). A statement '..UptoSaid' is the law's where the arguments, and the package variables that the reading takes, are together of bulk at most 1048576: NARROWER than '..Said'. Prove '..Said' where nothing that the law and all that it calls make is longer than what came in: it says more and counts as full. Else prove '..UptoSaid'. A law counts once. -/
mutual
def uptoBulk {H : Type} : DataW H → Nat
  | .lit (.string bytes) => bytes.length + 1
  | .lit _ => 1
  | .nil => 1
  | .ptr d => uptoBulk d + 1
  | .slice elems spare => uptoBulkAll elems + uptoBulkAll spare + 1
  | .agg parts => uptoBulkAll parts + 1
  | .iface _ d => uptoBulk d + 1
  | .map entries => uptoBulkEntries entries + 1
  | .held _ => 1
def uptoBulkAll {H : Type} : List (DataW H) → Nat
  | [] => 0
  | d :: r => uptoBulk d + uptoBulkAll r
def uptoBulkEntries {H : Type} : List (Lit × DataW H) → Nat
  | [] => 0
  | x :: r => uptoBulkEntry x + uptoBulkEntries r
def uptoBulkEntry {H : Type} : Lit × DataW H → Nat
  | (.string bytes, d) => bytes.length + uptoBulk d + 1
  | (_, d) => uptoBulk d + 1
 end
def uptoSmall : (H : Type) → List (DataW H) → Bool := fun _ ds => decide (uptoBulkAll ds ≤ 1048576)
def OpenSpec.upto (s : _root_.Go.ChangeSpec) : _root_.Go.OpenSpec := { _root_.Go.OpenSpec.ofChange s with cond := some uptoSmall }

/-- 'stackyardlaw06.ClaimFinds', WHERE WHAT IT READS IS OF BULK AT MOST 1048576: true; the input reads as it did. -/
def claimFindsUptoRow : OpenClaim := { program := "ytgpdoihgnpkanaa", sum := "018addde3bbd90fd3a68fcb2868e17429a735d29feba1af8a9b12ee2fbbe20de", func := "stackyard/stackyardlaw06.ClaimFinds", spec := "claimFinds", apart := false, narrowed := true }
def ClaimFindsUptoSaid : Prop := claimFindsUptoRow.holds Try.pinned (OpenSpec.upto claimFindsSpec)

/-- 'stackyardlaw06.ClaimMost', WHERE WHAT IT READS IS OF BULK AT MOST 1048576: true; the input reads as it did. -/
def claimMostUptoRow : OpenClaim := { program := "ytgpdoihgnpkanaa", sum := "018addde3bbd90fd3a68fcb2868e17429a735d29feba1af8a9b12ee2fbbe20de", func := "stackyard/stackyardlaw06.ClaimMost", spec := "claimMost", apart := false, narrowed := true }
def ClaimMostUptoSaid : Prop := claimMostUptoRow.holds Try.pinned (OpenSpec.upto claimMostSpec)

/-- 'stackyardlaw06.ClaimOwns', WHERE WHAT IT READS IS OF BULK AT MOST 1048576: true; the input reads as it did. -/
def claimOwnsUptoRow : OpenClaim := { program := "ytgpdoihgnpkanaa", sum := "018addde3bbd90fd3a68fcb2868e17429a735d29feba1af8a9b12ee2fbbe20de", func := "stackyard/stackyardlaw06.ClaimOwns", spec := "claimOwns", apart := false, narrowed := true }
def ClaimOwnsUptoSaid : Prop := claimOwnsUptoRow.holds Try.pinned (OpenSpec.upto claimOwnsSpec)

/-- 'stackyardlaw07.SnapSteps', WHERE WHAT IT READS IS OF BULK AT MOST 1048576: true; the input reads as it did. -/
def snapStepsUptoRow : OpenClaim := { program := "ytgpdoihgnpkanaa", sum := "018addde3bbd90fd3a68fcb2868e17429a735d29feba1af8a9b12ee2fbbe20de", func := "stackyard/stackyardlaw07.SnapSteps", spec := "snapSteps", apart := false, narrowed := true }
def SnapStepsUptoSaid : Prop := snapStepsUptoRow.holds Try.pinned (OpenSpec.upto snapStepsSpec)

/-- 'stackyardlaw07.SnapOnes', WHERE WHAT IT READS IS OF BULK AT MOST 1048576: true; the input reads as it did. -/
def snapOnesUptoRow : OpenClaim := { program := "ytgpdoihgnpkanaa", sum := "018addde3bbd90fd3a68fcb2868e17429a735d29feba1af8a9b12ee2fbbe20de", func := "stackyard/stackyardlaw07.SnapOnes", spec := "snapOnes", apart := false, narrowed := true }
def SnapOnesUptoSaid : Prop := snapOnesUptoRow.holds Try.pinned (OpenSpec.upto snapOnesSpec)

/-- 'stackyardlaw07.SnapEnds', WHERE WHAT IT READS IS OF BULK AT MOST 1048576: true; the input reads as it did. -/
def snapEndsUptoRow : OpenClaim := { program := "ytgpdoihgnpkanaa", sum := "018addde3bbd90fd3a68fcb2868e17429a735d29feba1af8a9b12ee2fbbe20de", func := "stackyard/stackyardlaw07.SnapEnds", spec := "snapEnds", apart := false, narrowed := true }
def SnapEndsUptoSaid : Prop := snapEndsUptoRow.holds Try.pinned (OpenSpec.upto snapEndsSpec)

/-- 'stackyardlaw07.SnapQuiet', WHERE WHAT IT READS IS OF BULK AT MOST 1048576: true; the input reads as it did. -/
def snapQuietUptoRow : OpenClaim := { program := "ytgpdoihgnpkanaa", sum := "018addde3bbd90fd3a68fcb2868e17429a735d29feba1af8a9b12ee2fbbe20de", func := "stackyard/stackyardlaw07.SnapQuiet", spec := "snapQuiet", apart := false, narrowed := true }
def SnapQuietUptoSaid : Prop := snapQuietUptoRow.holds Try.pinned (OpenSpec.upto snapQuietSpec)

/-- 'stackyardlaw07.SnapNever', WHERE WHAT IT READS IS OF BULK AT MOST 1048576: true; the input reads as it did. -/
def snapNeverUptoRow : OpenClaim := { program := "ytgpdoihgnpkanaa", sum := "018addde3bbd90fd3a68fcb2868e17429a735d29feba1af8a9b12ee2fbbe20de", func := "stackyard/stackyardlaw07.SnapNever", spec := "snapNever", apart := false, narrowed := true }
def SnapNeverUptoSaid : Prop := snapNeverUptoRow.holds Try.pinned (OpenSpec.upto snapNeverSpec)

end Rows
end Go.Proofs.Ytgpdoihgnpkanaa
