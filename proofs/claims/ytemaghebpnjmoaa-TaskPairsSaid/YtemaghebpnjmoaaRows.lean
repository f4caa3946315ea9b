/-
  No cell of these rows narrows 'for every input' (looked for: loops, veiled, ifaces, maps, wideKeys, modest, calm, conditions, laid).
  DERIVED. THE GIVEN ROWS OF THIS SEAT. 4 by the template 'for every input the law returns true; each argument reads behind the call as it read before'; 0 by the template 'total and deterministic' (their statements: YtemaghebpnjmoaaTotals.lean).
  GIVEN WITH THE SEED: the statements are not yours to turn. If you find one false, say at which input.
  Laid BY PROGRAM, IN A SANDBOX (cutbox-rows.mjs): the forced cells as the released guide's own fill.sh prints them over the translation 3b8f7b2b8f8d6992… (all of the seat's roots in one cut). By AI agents, Wed Nov 11 2026. No macro, syntax, notation, axiom, sorry.
-/
import Derived.Test.YtemaghebpnjmoaaChecked
import GoSem.Claim
import GoSem.ClaimJoined
import GoSem.ClaimMapViews
import Derived.JoinedTies
import Derived.KernelRfl
namespace Go.Proofs.Ytemaghebpnjmoaa
/- THE CELL 'sum', in the pinned program and in every row, IS THE sha256 OF THE DUMP (.gsa) THAT YtemaghebpnjmoaaProg.lean LOADS. Nothing in Lean hashes anything: it is a label: what it is worth is what the hold of that sum in a sandbox is worth. -/
noncomputable def Try.pinned : Pinned := { name := "ytemaghebpnjmoaa", sum := "3b8f7b2b8f8d699242b45bdf460914df2a7d89a71a0cf27e82112735b90b9df9", checked := Try.checked }
namespace Rows
def none {H : Type} : Left H := { results := [], args := [] }

/-- 'stackyardlaw12.TaskRights': WHATEVER THE INPUT: true; the input reads as it did. -/
def taskRightsSpec : ChangeSpec := { name := "taskRights", fn := fun _ => fun
  | [d1, d2, d3, d4] => { results := [.lit (.bool true)], args := [d1, d2, d3, d4] }
  | _ => none }
def taskRightsRow : OpenClaim := { program := "ytemaghebpnjmoaa", sum := "3b8f7b2b8f8d699242b45bdf460914df2a7d89a71a0cf27e82112735b90b9df9", func := "stackyard/stackyardlaw12.TaskRights", spec := "taskRights", unfollowed := true, recurses := true, apart := false }
def TaskRightsSaid : Prop := taskRightsRow.holds Try.pinned (OpenSpec.ofChange taskRightsSpec)

/-- ITS FALSE NEIGHBOUR: 'it returns false'. Refute it at one input. -/
def taskRightsWrong : ChangeSpec := { name := "taskRights", fn := fun _ => fun
  | [d1, d2, d3, d4] => { results := [.lit (.bool false)], args := [d1, d2, d3, d4] }
  | _ => none }
def TaskRightsWrongFalsely : Prop := taskRightsRow.holds Try.pinned (OpenSpec.ofChange taskRightsWrong)

/-- 'stackyardlaw12.TaskSteps': WHATEVER THE INPUT: true; the input reads as it did. -/
def taskStepsSpec : ChangeSpec := { name := "taskSteps", fn := fun _ => fun
  | [d1, d2, d3, d4, d5, d6, d7, d8, d9] => { results := [.lit (.bool true)], args := [d1, d2, d3, d4, d5, d6, d7, d8, d9] }
  | _ => none }
def taskStepsRow : OpenClaim := { program := "ytemaghebpnjmoaa", sum := "3b8f7b2b8f8d699242b45bdf460914df2a7d89a71a0cf27e82112735b90b9df9", func := "stackyard/stackyardlaw12.TaskSteps", spec := "taskSteps", unfollowed := true, recurses := true, apart := false }
def TaskStepsSaid : Prop := taskStepsRow.holds Try.pinned (OpenSpec.ofChange taskStepsSpec)

/-- ITS FALSE NEIGHBOUR: 'it returns false'. Refute it at one input. -/
def taskStepsWrong : ChangeSpec := { name := "taskSteps", fn := fun _ => fun
  | [d1, d2, d3, d4, d5, d6, d7, d8, d9] => { results := [.lit (.bool false)], args := [d1, d2, d3, d4, d5, d6, d7, d8, d9] }
  | _ => none }
def TaskStepsWrongFalsely : Prop := taskStepsRow.holds Try.pinned (OpenSpec.ofChange taskStepsWrong)

/-- 'stackyardlaw12.TaskPairs': WHATEVER THE INPUT: true; the input reads as it did. -/
def taskPairsSpec : ChangeSpec := { name := "taskPairs", fn := fun _ => fun
  | [d1, d2, d3, d4, d5, d6] => { results := [.lit (.bool true)], args := [d1, d2, d3, d4, d5, d6] }
  | _ => none }
def taskPairsRow : OpenClaim := { program := "ytemaghebpnjmoaa", sum := "3b8f7b2b8f8d699242b45bdf460914df2a7d89a71a0cf27e82112735b90b9df9", func := "stackyard/stackyardlaw12.TaskPairs", spec := "taskPairs", unfollowed := true, recurses := true, apart := false }
def TaskPairsSaid : Prop := taskPairsRow.holds Try.pinned (OpenSpec.ofChange taskPairsSpec)

/-- ITS FALSE NEIGHBOUR: 'it returns false'. Refute it at one input. -/
def taskPairsWrong : ChangeSpec := { name := "taskPairs", fn := fun _ => fun
  | [d1, d2, d3, d4, d5, d6] => { results := [.lit (.bool false)], args := [d1, d2, d3, d4, d5, d6] }
  | _ => none }
def TaskPairsWrongFalsely : Prop := taskPairsRow.holds Try.pinned (OpenSpec.ofChange taskPairsWrong)

/-- 'stackyardlaw12.TaskRests': WHATEVER THE INPUT: true; the input reads as it did. -/
def taskRestsSpec : ChangeSpec := { name := "taskRests", fn := fun _ => fun
  | [d1, d2, d3, d4, d5, d6, d7] => { results := [.lit (.bool true)], args := [d1, d2, d3, d4, d5, d6, d7] }
  | _ => none }
def taskRestsRow : OpenClaim := { program := "ytemaghebpnjmoaa", sum := "3b8f7b2b8f8d699242b45bdf460914df2a7d89a71a0cf27e82112735b90b9df9", func := "stackyard/stackyardlaw12.TaskRests", spec := "taskRests", unfollowed := true, recurses := true, apart := false }
def TaskRestsSaid : Prop := taskRestsRow.holds Try.pinned (OpenSpec.ofChange taskRestsSpec)

/-- ITS FALSE NEIGHBOUR: 'it returns false'. Refute it at one input. -/
def taskRestsWrong : ChangeSpec := { name := "taskRests", fn := fun _ => fun
  | [d1, d2, d3, d4, d5, d6, d7] => { results := [.lit (.bool false)], args := [d1, d2, d3, d4, d5, d6, d7] }
  | _ => none }
def TaskRestsWrongFalsely : Prop := taskRestsRow.holds Try.pinned (OpenSpec.ofChange taskRestsWrong)

/- THE SECOND FORM. 'bulk': how many values and letters a reading holds, each counted each time it is reached (what is shared counts as often as it is met; a slice's spare places count too). A statement '..UptoSaid' is the law's where the arguments, and the package variables that the reading takes, are together of bulk at most 1048576: NARROWER than '..Said'. Prove '..Said' where nothing that the law and all that it calls make is longer than what came in: it says more and counts as full. Else prove '..UptoSaid'. A law counts once. -/
mutual
def uptoBulk {H : Type} : DataW H → Nat
  | .lit (.string bytes) => bytes.length + 1
  | .lit _ => 1
  | .nil => 1
  | .ptr d => uptoBulk d + 1
  | .slice elems spare => uptoBulkAll elems + uptoBulkAll spare + 1
  | .agg parts => uptoBulkAll parts + 1
  | .iface _ d => uptoBulk d + 1
  | .map entries => uptoBulkEntries entries + 1
  | .held _ => 1
def uptoBulkAll {H : Type} : List (DataW H) → Nat
  | [] => 0
  | d :: r => uptoBulk d + uptoBulkAll r
def uptoBulkEntries {H : Type} : List (Lit × DataW H) → Nat
  | [] => 0
  | x :: r => uptoBulkEntry x + uptoBulkEntries r
def uptoBulkEntry {H : Type} : Lit × DataW H → Nat
  | (.string bytes, d) => bytes.length + uptoBulk d + 1
  | (_, d) => uptoBulk d + 1
 end
def uptoSmall : (H : Type) → List (DataW H) → Bool := fun _ ds => decide (uptoBulkAll ds ≤ 1048576)
def OpenSpec.upto (s : _root_.Go.ChangeSpec) : _root_.Go.OpenSpec := { _root_.Go.OpenSpec.ofChange s with cond := some uptoSmall }

/-- 'stackyardlaw12.TaskRights', WHERE WHAT IT READS IS OF BULK AT MOST 1048576: true; the input reads as it did. -/
def taskRightsUptoRow : OpenClaim := { program := "ytemaghebpnjmoaa", sum := "3b8f7b2b8f8d699242b45bdf460914df2a7d89a71a0cf27e82112735b90b9df9", func := "stackyard/stackyardlaw12.TaskRights", spec := "taskRights", unfollowed := true, recurses := true, apart := false, narrowed := true }
def TaskRightsUptoSaid : Prop := taskRightsUptoRow.holds Try.pinned (OpenSpec.upto taskRightsSpec)

/-- 'stackyardlaw12.TaskSteps', WHERE WHAT IT READS IS OF BULK AT MOST 1048576: true; the input reads as it did. -/
def taskStepsUptoRow : OpenClaim := { program := "ytemaghebpnjmoaa", sum := "3b8f7b2b8f8d699242b45bdf460914df2a7d89a71a0cf27e82112735b90b9df9", func := "stackyard/stackyardlaw12.TaskSteps", spec := "taskSteps", unfollowed := true, recurses := true, apart := false, narrowed := true }
def TaskStepsUptoSaid : Prop := taskStepsUptoRow.holds Try.pinned (OpenSpec.upto taskStepsSpec)

/-- 'stackyardlaw12.TaskPairs', WHERE WHAT IT READS IS OF BULK AT MOST 1048576: true; the input reads as it did. -/
def taskPairsUptoRow : OpenClaim := { program := "ytemaghebpnjmoaa", sum := "3b8f7b2b8f8d699242b45bdf460914df2a7d89a71a0cf27e82112735b90b9df9", func := "stackyard/stackyardlaw12.TaskPairs", spec := "taskPairs", unfollowed := true, recurses := true, apart := false, narrowed := true }
def TaskPairsUptoSaid : Prop := taskPairsUptoRow.holds Try.pinned (OpenSpec.upto taskPairsSpec)

/-- 'stackyardlaw12.TaskRests', WHERE WHAT IT READS IS OF BULK AT MOST 1048576: true; the input reads as it did. -/
def taskRestsUptoRow : OpenClaim := { program := "ytemaghebpnjmoaa", sum := "3b8f7b2b8f8d699242b45bdf460914df2a7d89a71a0cf27e82112735b90b9df9", func := "stackyard/stackyardlaw12.TaskRests", spec := "taskRests", unfollowed := true, recurses := true, apart := false, narrowed := true }
def TaskRestsUptoSaid : Prop := taskRestsUptoRow.holds Try.pinned (OpenSpec.upto taskRestsSpec)

end Rows
end Go.Proofs.Ytemaghebpnjmoaa
