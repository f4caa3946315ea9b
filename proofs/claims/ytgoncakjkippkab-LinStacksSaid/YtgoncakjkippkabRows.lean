/-
  No cell of these rows narrows 'for every input' (looked for: loops, veiled, ifaces, maps, wideKeys, modest, calm, conditions, laid).
  DERIVED. THE GIVEN ROWS OF THIS SEAT. 4 by the template 'for every input the law returns true; each argument reads behind the call as it read before'; 0 by the template 'total and deterministic' (their statements: YtgoncakjkippkabTotals.lean).
  GIVEN WITH THE SEED: the statements are not yours to turn. If you find one false, say at which input.
  Laid BY PROGRAM, IN A SANDBOX (cutbox-rows.mjs): the forced cells as the released guide's own fill.sh prints them over the translation 8d8f67f112da49e0… (all of the seat's roots in one cut). By AI agents, Wed Nov 11 2026. No macro, syntax, notation, axiom, sorry.
-/
import Derived.Test.YtgoncakjkippkabChecked
import GoSem.Claim
import GoSem.ClaimJoined
import GoSem.ClaimMapViews
import Derived.JoinedTies
import Derived.KernelRfl
namespace Go.Proofs.Ytgoncakjkippkab
/- THE CELL 'sum', in the pinned program and in every row, IS THE sha256 OF THE DUMP (.gsa) THAT YtgoncakjkippkabProg.lean LOADS. Nothing in Lean hashes anything: it is a label: what it is worth is what the hold of that sum in a sandbox is worth. -/
noncomputable def Try.pinned : Pinned := { name := "ytgoncakjkippkab", sum := "8d8f67f112da49e057fa95664cd272681372972c31d44dea3cd930b4e63c099c", checked := Try.checked }
namespace Rows
def none {H : Type} : Left H := { results := [], args := [] }

/-- 'stackyardlaw15.LinCuts': WHATEVER THE INPUT: true; the input reads as it did. -/
def linCutsSpec : ChangeSpec := { name := "linCuts", fn := fun _ => fun
  | [d1, d2] => { results := [.lit (.bool true)], args := [d1, d2] }
  | _ => none }
def linCutsRow : OpenClaim := { program := "ytgoncakjkippkab", sum := "8d8f67f112da49e057fa95664cd272681372972c31d44dea3cd930b4e63c099c", func := "stackyard/stackyardlaw15.LinCuts", spec := "linCuts", recurses := true, apart := false }
def LinCutsSaid : Prop := linCutsRow.holds Try.pinned (OpenSpec.ofChange linCutsSpec)

/-- ITS FALSE NEIGHBOUR: 'it returns false'. Refute it at one input. -/
def linCutsWrong : ChangeSpec := { name := "linCuts", fn := fun _ => fun
  | [d1, d2] => { results := [.lit (.bool false)], args := [d1, d2] }
  | _ => none }
def LinCutsWrongFalsely : Prop := linCutsRow.holds Try.pinned (OpenSpec.ofChange linCutsWrong)

/-- 'stackyardlaw15.LinStacks': WHATEVER THE INPUT: true; the input reads as it did. -/
def linStacksSpec : ChangeSpec := { name := "linStacks", fn := fun _ => fun
  | [d1, d2] => { results := [.lit (.bool true)], args := [d1, d2] }
  | _ => none }
def linStacksRow : OpenClaim := { program := "ytgoncakjkippkab", sum := "8d8f67f112da49e057fa95664cd272681372972c31d44dea3cd930b4e63c099c", func := "stackyard/stackyardlaw15.LinStacks", spec := "linStacks", recurses := true, apart := false }
def LinStacksSaid : Prop := linStacksRow.holds Try.pinned (OpenSpec.ofChange linStacksSpec)

/-- ITS FALSE NEIGHBOUR: 'it returns false'. Refute it at one input. -/
def linStacksWrong : ChangeSpec := { name := "linStacks", fn := fun _ => fun
  | [d1, d2] => { results := [.lit (.bool false)], args := [d1, d2] }
  | _ => none }
def LinStacksWrongFalsely : Prop := linStacksRow.holds Try.pinned (OpenSpec.ofChange linStacksWrong)

/-- 'stackyardlaw16.BoundSums': WHATEVER THE INPUT: true; the input reads as it did. -/
def boundSumsSpec : ChangeSpec := { name := "boundSums", fn := fun _ => fun
  | [d1, d2] => { results := [.lit (.bool true)], args := [d1, d2] }
  | _ => none }
def boundSumsRow : OpenClaim := { program := "ytgoncakjkippkab", sum := "8d8f67f112da49e057fa95664cd272681372972c31d44dea3cd930b4e63c099c", func := "stackyard/stackyardlaw16.BoundSums", spec := "boundSums", apart := false }
def BoundSumsSaid : Prop := boundSumsRow.holds Try.pinned (OpenSpec.ofChange boundSumsSpec)

/-- ITS FALSE NEIGHBOUR: 'it returns false'. Refute it at one input. -/
def boundSumsWrong : ChangeSpec := { name := "boundSums", fn := fun _ => fun
  | [d1, d2] => { results := [.lit (.bool false)], args := [d1, d2] }
  | _ => none }
def BoundSumsWrongFalsely : Prop := boundSumsRow.holds Try.pinned (OpenSpec.ofChange boundSumsWrong)

/-- 'stackyardlaw16.BoundGaps': WHATEVER THE INPUT: true; the input reads as it did. -/
def boundGapsSpec : ChangeSpec := { name := "boundGaps", fn := fun _ => fun
  | [d1, d2] => { results := [.lit (.bool true)], args := [d1, d2] }
  | _ => none }
def boundGapsRow : OpenClaim := { program := "ytgoncakjkippkab", sum := "8d8f67f112da49e057fa95664cd272681372972c31d44dea3cd930b4e63c099c", func := "stackyard/stackyardlaw16.BoundGaps", spec := "boundGaps", apart := false }
def BoundGapsSaid : Prop := boundGapsRow.holds Try.pinned (OpenSpec.ofChange boundGapsSpec)

/-- ITS FALSE NEIGHBOUR: 'it returns false'. Refute it at one input. -/
def boundGapsWrong : ChangeSpec := { name := "boundGaps", fn := fun _ => fun
  | [d1, d2] => { results := [.lit (.bool false)], args := [d1, d2] }
  | _ => none }
def BoundGapsWrongFalsely : Prop := boundGapsRow.holds Try.pinned (OpenSpec.ofChange boundGapsWrong)

/- THE SECOND FORM. 'bulk': how many values and letters a reading holds, each counted each time it is reached (what is shared counts as often as it is met; a slice's spare places count too). A statement '..UptoSaid' is the law's where the arguments, and the package variables that the reading takes, are together of bulk at most 1048576: NARROWER than '..Said'. Prove '..Said' where nothing that the law and all that it calls make is longer than what came in: it says more and counts as full. Else prove '..UptoSaid'. A law counts once. -/
mutual
def uptoBulk {H : Type} : DataW H → Nat
  | .lit (.string bytes) => bytes.length + 1
  | .lit _ => 1
  | .nil => 1
  | .ptr d => uptoBulk d + 1
  | .slice elems spare => uptoBulkAll elems + uptoBulkAll spare + 1
  | .agg parts => uptoBulkAll parts + 1
  | .iface _ d => uptoBulk d + 1
  | .map entries => uptoBulkEntries entries + 1
  | .held _ => 1
def uptoBulkAll {H : Type} : List (DataW H) → Nat
  | [] => 0
  | d :: r => uptoBulk d + uptoBulkAll r
def uptoBulkEntries {H : Type} : List (Lit × DataW H) → Nat
  | [] => 0
  | x :: r => uptoBulkEntry x + uptoBulkEntries r
def uptoBulkEntry {H : Type} : Lit × DataW H → Nat
  | (.string bytes, d) => bytes.length + uptoBulk d + 1
  | (_, d) => uptoBulk d + 1
 end
def uptoSmall : (H : Type) → List (DataW H) → Bool := fun _ ds => decide (uptoBulkAll ds ≤ 1048576)
def OpenSpec.upto (s : _root_.Go.ChangeSpec) : _root_.Go.OpenSpec := { _root_.Go.OpenSpec.ofChange s with cond := some uptoSmall }

/-- 'stackyardlaw15.LinCuts', WHERE WHAT IT READS IS OF BULK AT MOST 1048576: true; the input reads as it did. -/
def linCutsUptoRow : OpenClaim := { program := "ytgoncakjkippkab", sum := "8d8f67f112da49e057fa95664cd272681372972c31d44dea3cd930b4e63c099c", func := "stackyard/stackyardlaw15.LinCuts", spec := "linCuts", recurses := true, apart := false, narrowed := true }
def LinCutsUptoSaid : Prop := linCutsUptoRow.holds Try.pinned (OpenSpec.upto linCutsSpec)

/-- 'stackyardlaw15.LinStacks', WHERE WHAT IT READS IS OF BULK AT MOST 1048576: true; the input reads as it did. -/
def linStacksUptoRow : OpenClaim := { program := "ytgoncakjkippkab", sum := "8d8f67f112da49e057fa95664cd272681372972c31d44dea3cd930b4e63c099c", func := "stackyard/stackyardlaw15.LinStacks", spec := "linStacks", recurses := true, apart := false, narrowed := true }
def LinStacksUptoSaid : Prop := linStacksUptoRow.holds Try.pinned (OpenSpec.upto linStacksSpec)

/-- 'stackyardlaw16.BoundSums', WHERE WHAT IT READS IS OF BULK AT MOST 1048576: true; the input reads as it did. -/
def boundSumsUptoRow : OpenClaim := { program := "ytgoncakjkippkab", sum := "8d8f67f112da49e057fa95664cd272681372972c31d44dea3cd930b4e63c099c", func := "stackyard/stackyardlaw16.BoundSums", spec := "boundSums", apart := false, narrowed := true }
def BoundSumsUptoSaid : Prop := boundSumsUptoRow.holds Try.pinned (OpenSpec.upto boundSumsSpec)

/-- 'stackyardlaw16.BoundGaps', WHERE WHAT IT READS IS OF BULK AT MOST 1048576: true; the input reads as it did. -/
def boundGapsUptoRow : OpenClaim := { program := "ytgoncakjkippkab", sum := "8d8f67f112da49e057fa95664cd272681372972c31d44dea3cd930b4e63c099c", func := "stackyard/stackyardlaw16.BoundGaps", spec := "boundGaps", apart := false, narrowed := true }
def BoundGapsUptoSaid : Prop := boundGapsUptoRow.holds Try.pinned (OpenSpec.upto boundGapsSpec)

end Rows
end Go.Proofs.Ytgoncakjkippkab
