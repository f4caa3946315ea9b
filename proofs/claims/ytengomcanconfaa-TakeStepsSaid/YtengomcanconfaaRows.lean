/-
  No cell of these rows narrows 'for every input' (looked for: loops, veiled, ifaces, maps, wideKeys, modest, calm, conditions, laid).
  DERIVED. THE GIVEN ROWS OF THIS SEAT. 4 by the template 'for every input the law returns true; each argument reads behind the call as it read before'; 0 by the template 'total and deterministic' (their statements: YtengomcanconfaaTotals.lean).
  GIVEN WITH THE SEED: the statements are not yours to turn. If you find one false, say at which input.
  Laid BY PROGRAM, IN A SANDBOX (cutbox-rows.mjs): the forced cells as the released guide's own fill.sh prints them over the translation e2a5dc3faa6e90df… (all of the seat's roots in one cut). By AI agents, Wed Nov 11 2026. No macro, syntax, notation, axiom, sorry.
-/
import Derived.Test.YtengomcanconfaaChecked
import GoSem.Claim
import GoSem.ClaimJoined
import GoSem.ClaimMapViews
import Derived.JoinedTies
import Derived.KernelRfl
namespace Go.Proofs.Ytengomcanconfaa
/- THE CELL 'sum', in the pinned program and in every row, IS THE sha256 OF THE DUMP (.gsa) THAT YtengomcanconfaaProg.lean LOADS. Nothing in Lean hashes anything: it is a label: what it is worth is what the hold of that sum in a sandbox is worth. -/
noncomputable def Try.pinned : Pinned := { name := "ytengomcanconfaa", sum := "e2a5dc3faa6e90df9cb88991947ac43ff1da2e30eca9dc3c768285304920269e", checked := Try.checked }
namespace Rows
def none {H : Type} : Left H := { results := [], args := [] }

/-- 'stackyardlaw09.TakeSteps': WHATEVER THE INPUT: true; the input reads as it did. -/
def takeStepsSpec : ChangeSpec := { name := "takeSteps", fn := fun _ => fun
  | [d1, d2, d3, d4, d5, d6, d7] => { results := [.lit (.bool true)], args := [d1, d2, d3, d4, d5, d6, d7] }
  | _ => none }
def takeStepsRow : OpenClaim := { program := "ytengomcanconfaa", sum := "e2a5dc3faa6e90df9cb88991947ac43ff1da2e30eca9dc3c768285304920269e", func := "stackyard/stackyardlaw09.TakeSteps", spec := "takeSteps", apart := false }
def TakeStepsSaid : Prop := takeStepsRow.holds Try.pinned (OpenSpec.ofChange takeStepsSpec)

/-- ITS FALSE NEIGHBOUR: 'it returns false'. Refute it at one input. -/
def takeStepsWrong : ChangeSpec := { name := "takeSteps", fn := fun _ => fun
  | [d1, d2, d3, d4, d5, d6, d7] => { results := [.lit (.bool false)], args := [d1, d2, d3, d4, d5, d6, d7] }
  | _ => none }
def TakeStepsWrongFalsely : Prop := takeStepsRow.holds Try.pinned (OpenSpec.ofChange takeStepsWrong)

/-- 'stackyardlaw09.TakeRaces': WHATEVER THE INPUT: true; the input reads as it did. -/
def takeRacesSpec : ChangeSpec := { name := "takeRaces", fn := fun _ => fun
  | [d1, d2, d3] => { results := [.lit (.bool true)], args := [d1, d2, d3] }
  | _ => none }
def takeRacesRow : OpenClaim := { program := "ytengomcanconfaa", sum := "e2a5dc3faa6e90df9cb88991947ac43ff1da2e30eca9dc3c768285304920269e", func := "stackyard/stackyardlaw09.TakeRaces", spec := "takeRaces", apart := false }
def TakeRacesSaid : Prop := takeRacesRow.holds Try.pinned (OpenSpec.ofChange takeRacesSpec)

/-- ITS FALSE NEIGHBOUR: 'it returns false'. Refute it at one input. -/
def takeRacesWrong : ChangeSpec := { name := "takeRaces", fn := fun _ => fun
  | [d1, d2, d3] => { results := [.lit (.bool false)], args := [d1, d2, d3] }
  | _ => none }
def TakeRacesWrongFalsely : Prop := takeRacesRow.holds Try.pinned (OpenSpec.ofChange takeRacesWrong)

/-- 'stackyardlaw09.TakeLeaves': WHATEVER THE INPUT: true; the input reads as it did. -/
def takeLeavesSpec : ChangeSpec := { name := "takeLeaves", fn := fun _ => fun
  | [d1, d2, d3, d4, d5, d6, d7] => { results := [.lit (.bool true)], args := [d1, d2, d3, d4, d5, d6, d7] }
  | _ => none }
def takeLeavesRow : OpenClaim := { program := "ytengomcanconfaa", sum := "e2a5dc3faa6e90df9cb88991947ac43ff1da2e30eca9dc3c768285304920269e", func := "stackyard/stackyardlaw09.TakeLeaves", spec := "takeLeaves", apart := false }
def TakeLeavesSaid : Prop := takeLeavesRow.holds Try.pinned (OpenSpec.ofChange takeLeavesSpec)

/-- ITS FALSE NEIGHBOUR: 'it returns false'. Refute it at one input. -/
def takeLeavesWrong : ChangeSpec := { name := "takeLeaves", fn := fun _ => fun
  | [d1, d2, d3, d4, d5, d6, d7] => { results := [.lit (.bool false)], args := [d1, d2, d3, d4, d5, d6, d7] }
  | _ => none }
def TakeLeavesWrongFalsely : Prop := takeLeavesRow.holds Try.pinned (OpenSpec.ofChange takeLeavesWrong)

/-- 'stackyardlaw09.TakeGuards': WHATEVER THE INPUT: true; the input reads as it did. -/
def takeGuardsSpec : ChangeSpec := { name := "takeGuards", fn := fun _ => fun
  | [d1, d2, d3, d4, d5, d6] => { results := [.lit (.bool true)], args := [d1, d2, d3, d4, d5, d6] }
  | _ => none }
def takeGuardsRow : OpenClaim := { program := "ytengomcanconfaa", sum := "e2a5dc3faa6e90df9cb88991947ac43ff1da2e30eca9dc3c768285304920269e", func := "stackyard/stackyardlaw09.TakeGuards", spec := "takeGuards", apart := false }
def TakeGuardsSaid : Prop := takeGuardsRow.holds Try.pinned (OpenSpec.ofChange takeGuardsSpec)

/-- ITS FALSE NEIGHBOUR: 'it returns false'. Refute it at one input. -/
def takeGuardsWrong : ChangeSpec := { name := "takeGuards", fn := fun _ => fun
  | [d1, d2, d3, d4, d5, d6] => { results := [.lit (.bool false)], args := [d1, d2, d3, d4, d5, d6] }
  | _ => none }
def TakeGuardsWrongFalsely : Prop := takeGuardsRow.holds Try.pinned (OpenSpec.ofChange takeGuardsWrong)

/- THE SECOND FORM. 'bulk': how many values and letters a reading holds, each counted each time it is reached (what is shared counts as often as it is met; a slice's spare places count too). A statement '..UptoSaid' is the law's where the arguments, and the package variables that the reading takes, are together of bulk at most 1048576: NARROWER than '..Said'. Prove '..Said' where nothing that the law and all that it calls make is longer than what came in: it says more and counts as full. Else prove '..UptoSaid'. A law counts once. -/
mutual
def uptoBulk {H : Type} : DataW H → Nat
  | .lit (.string bytes) => bytes.length + 1
  | .lit _ => 1
  | .nil => 1
  | .ptr d => uptoBulk d + 1
  | .slice elems spare => uptoBulkAll elems + uptoBulkAll spare + 1
  | .agg parts => uptoBulkAll parts + 1
  | .iface _ d => uptoBulk d + 1
  | .map entries => uptoBulkEntries entries + 1
  | .held _ => 1
def uptoBulkAll {H : Type} : List (DataW H) → Nat
  | [] => 0
  | d :: r => uptoBulk d + uptoBulkAll r
def uptoBulkEntries {H : Type} : List (Lit × DataW H) → Nat
  | [] => 0
  | x :: r => uptoBulkEntry x + uptoBulkEntries r
def uptoBulkEntry {H : Type} : Lit × DataW H → Nat
  | (.string bytes, d) => bytes.length + uptoBulk d + 1
  | (_, d) => uptoBulk d + 1
 end
def uptoSmall : (H : Type) → List (DataW H) → Bool := fun _ ds => decide (uptoBulkAll ds ≤ 1048576)
def OpenSpec.upto (s : _root_.Go.ChangeSpec) : _root_.Go.OpenSpec := { _root_.Go.OpenSpec.ofChange s with cond := some uptoSmall }

/-- 'stackyardlaw09.TakeSteps', WHERE WHAT IT READS IS OF BULK AT MOST 1048576: true; the input reads as it did. -/
def takeStepsUptoRow : OpenClaim := { program := "ytengomcanconfaa", sum := "e2a5dc3faa6e90df9cb88991947ac43ff1da2e30eca9dc3c768285304920269e", func := "stackyard/stackyardlaw09.TakeSteps", spec := "takeSteps", apart := false, narrowed := true }
def TakeStepsUptoSaid : Prop := takeStepsUptoRow.holds Try.pinned (OpenSpec.upto takeStepsSpec)

/-- 'stackyardlaw09.TakeRaces', WHERE WHAT IT READS IS OF BULK AT MOST 1048576: true; the input reads as it did. -/
def takeRacesUptoRow : OpenClaim := { program := "ytengomcanconfaa", sum := "e2a5dc3faa6e90df9cb88991947ac43ff1da2e30eca9dc3c768285304920269e", func := "stackyard/stackyardlaw09.TakeRaces", spec := "takeRaces", apart := false, narrowed := true }
def TakeRacesUptoSaid : Prop := takeRacesUptoRow.holds Try.pinned (OpenSpec.upto takeRacesSpec)

/-- 'stackyardlaw09.TakeLeaves', WHERE WHAT IT READS IS OF BULK AT MOST 1048576: true; the input reads as it did. -/
def takeLeavesUptoRow : OpenClaim := { program := "ytengomcanconfaa", sum := "e2a5dc3faa6e90df9cb88991947ac43ff1da2e30eca9dc3c768285304920269e", func := "stackyard/stackyardlaw09.TakeLeaves", spec := "takeLeaves", apart := false, narrowed := true }
def TakeLeavesUptoSaid : Prop := takeLeavesUptoRow.holds Try.pinned (OpenSpec.upto takeLeavesSpec)

/-- 'stackyardlaw09.TakeGuards', WHERE WHAT IT READS IS OF BULK AT MOST 1048576: true; the input reads as it did. -/
def takeGuardsUptoRow : OpenClaim := { program := "ytengomcanconfaa", sum := "e2a5dc3faa6e90df9cb88991947ac43ff1da2e30eca9dc3c768285304920269e", func := "stackyard/stackyardlaw09.TakeGuards", spec := "takeGuards", apart := false, narrowed := true }
def TakeGuardsUptoSaid : Prop := takeGuardsUptoRow.holds Try.pinned (OpenSpec.upto takeGuardsSpec)

end Rows
end Go.Proofs.Ytengomcanconfaa
