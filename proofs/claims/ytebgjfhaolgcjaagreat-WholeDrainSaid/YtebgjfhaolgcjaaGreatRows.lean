/-
  No cell of these rows narrows 'for every input' (looked for: loops, veiled, ifaces, maps, wideKeys, modest, calm, conditions, laid).
  DERIVED. THE GIVEN ROWS OF THIS SEAT. 6 by the template 'for every input the law returns true; each argument reads behind the call as it read before'; 0 by the template 'total and deterministic' (their statements: YtebgjfhaolgcjaaGreatTotals.lean).
  GIVEN WITH THE SEED: the statements are not yours to turn. If you find one false, say at which input.
  Laid BY PROGRAM, IN A SANDBOX (cutbox-rows.mjs): the forced cells as the released guide's own fill.sh prints them over the translation 6b72842b8fad89a6… (all of the seat's roots in one cut). By AI agents, Wed Nov 11 2026. No macro, syntax, notation, axiom, sorry.
-/
import Derived.Test.YtebgjfhaolgcjaaGreatChecked
import GoSem.Claim
import GoSem.ClaimJoined
import GoSem.ClaimMapViews
import Derived.JoinedTies
import Derived.KernelRfl
namespace Go.Proofs.YtebgjfhaolgcjaaGreat
/- THE CELL 'sum', in the pinned program and in every row, IS THE sha256 OF THE DUMP (.gsa) THAT YtebgjfhaolgcjaaGreatProg.lean LOADS. Nothing in Lean hashes anything: it is a label: what it is worth is what the hold of that sum in a sandbox is worth. -/
noncomputable def Tryz.pinned : Pinned := { name := "ytebgjfhaolgcjaagreat", sum := "6b72842b8fad89a65902d8492660a5df5571230d9b3fa9bdb47af6cea511ae5a", checked := Tryz.checked }
namespace Rows
def none {H : Type} : Left H := { results := [], args := [] }

/-- 'stackyardlaw19.PlayRuns': WHATEVER THE INPUT: true; the input reads as it did. -/
def playRunsSpec : ChangeSpec := { name := "playRuns", fn := fun _ => fun
  | [d1, d2] => { results := [.lit (.bool true)], args := [d1, d2] }
  | _ => none }
def playRunsRow : OpenClaim := { program := "ytebgjfhaolgcjaagreat", sum := "6b72842b8fad89a65902d8492660a5df5571230d9b3fa9bdb47af6cea511ae5a", func := "stackyard/stackyardlaw19.PlayRuns", spec := "playRuns", unfollowed := true, recurses := true, plainKeys := false, apart := false }
def PlayRunsSaid : Prop := playRunsRow.holds Tryz.pinned (OpenSpec.ofChange playRunsSpec)

/-- ITS FALSE NEIGHBOUR: 'it returns false'. Refute it at one input. -/
def playRunsWrong : ChangeSpec := { name := "playRuns", fn := fun _ => fun
  | [d1, d2] => { results := [.lit (.bool false)], args := [d1, d2] }
  | _ => none }
def PlayRunsWrongFalsely : Prop := playRunsRow.holds Tryz.pinned (OpenSpec.ofChange playRunsWrong)

/-- 'stackyardlaw19.PlayLinear': WHATEVER THE INPUT: true; the input reads as it did. -/
def playLinearSpec : ChangeSpec := { name := "playLinear", fn := fun _ => fun
  | [d1, d2, d3, d4, d5] => { results := [.lit (.bool true)], args := [d1, d2, d3, d4, d5] }
  | _ => none }
def playLinearRow : OpenClaim := { program := "ytebgjfhaolgcjaagreat", sum := "6b72842b8fad89a65902d8492660a5df5571230d9b3fa9bdb47af6cea511ae5a", func := "stackyard/stackyardlaw19.PlayLinear", spec := "playLinear", unfollowed := true, recurses := true, plainKeys := false, apart := false }
def PlayLinearSaid : Prop := playLinearRow.holds Tryz.pinned (OpenSpec.ofChange playLinearSpec)

/-- ITS FALSE NEIGHBOUR: 'it returns false'. Refute it at one input. -/
def playLinearWrong : ChangeSpec := { name := "playLinear", fn := fun _ => fun
  | [d1, d2, d3, d4, d5] => { results := [.lit (.bool false)], args := [d1, d2, d3, d4, d5] }
  | _ => none }
def PlayLinearWrongFalsely : Prop := playLinearRow.holds Tryz.pinned (OpenSpec.ofChange playLinearWrong)

/-- 'stackyardtop.WholeClean': WHATEVER THE INPUT: true; the input reads as it did. -/
def wholeCleanSpec : ChangeSpec := { name := "wholeClean", fn := fun _ => fun
  | [d1, d2, d3, d4] => { results := [.lit (.bool true)], args := [d1, d2, d3, d4] }
  | _ => none }
def wholeCleanRow : OpenClaim := { program := "ytebgjfhaolgcjaagreat", sum := "6b72842b8fad89a65902d8492660a5df5571230d9b3fa9bdb47af6cea511ae5a", func := "stackyard/stackyardtop.WholeClean", spec := "wholeClean", unfollowed := true, recurses := true, plainKeys := false, apart := false }
def WholeCleanSaid : Prop := wholeCleanRow.holds Tryz.pinned (OpenSpec.ofChange wholeCleanSpec)

/-- ITS FALSE NEIGHBOUR: 'it returns false'. Refute it at one input. -/
def wholeCleanWrong : ChangeSpec := { name := "wholeClean", fn := fun _ => fun
  | [d1, d2, d3, d4] => { results := [.lit (.bool false)], args := [d1, d2, d3, d4] }
  | _ => none }
def WholeCleanWrongFalsely : Prop := wholeCleanRow.holds Tryz.pinned (OpenSpec.ofChange wholeCleanWrong)

/-- 'stackyardtop.WholeWindow': WHATEVER THE INPUT: true; the input reads as it did. -/
def wholeWindowSpec : ChangeSpec := { name := "wholeWindow", fn := fun _ => fun
  | [d1, d2, d3, d4, d5] => { results := [.lit (.bool true)], args := [d1, d2, d3, d4, d5] }
  | _ => none }
def wholeWindowRow : OpenClaim := { program := "ytebgjfhaolgcjaagreat", sum := "6b72842b8fad89a65902d8492660a5df5571230d9b3fa9bdb47af6cea511ae5a", func := "stackyard/stackyardtop.WholeWindow", spec := "wholeWindow", unfollowed := true, recurses := true, plainKeys := false, apart := false }
def WholeWindowSaid : Prop := wholeWindowRow.holds Tryz.pinned (OpenSpec.ofChange wholeWindowSpec)

/-- ITS FALSE NEIGHBOUR: 'it returns false'. Refute it at one input. -/
def wholeWindowWrong : ChangeSpec := { name := "wholeWindow", fn := fun _ => fun
  | [d1, d2, d3, d4, d5] => { results := [.lit (.bool false)], args := [d1, d2, d3, d4, d5] }
  | _ => none }
def WholeWindowWrongFalsely : Prop := wholeWindowRow.holds Tryz.pinned (OpenSpec.ofChange wholeWindowWrong)

/-- 'stackyardtop.WholeAlone': WHATEVER THE INPUT: true; the input reads as it did. -/
def wholeAloneSpec : ChangeSpec := { name := "wholeAlone", fn := fun _ => fun
  | [d1, d2, d3, d4] => { results := [.lit (.bool true)], args := [d1, d2, d3, d4] }
  | _ => none }
def wholeAloneRow : OpenClaim := { program := "ytebgjfhaolgcjaagreat", sum := "6b72842b8fad89a65902d8492660a5df5571230d9b3fa9bdb47af6cea511ae5a", func := "stackyard/stackyardtop.WholeAlone", spec := "wholeAlone", unfollowed := true, recurses := true, plainKeys := false, apart := false }
def WholeAloneSaid : Prop := wholeAloneRow.holds Tryz.pinned (OpenSpec.ofChange wholeAloneSpec)

/-- ITS FALSE NEIGHBOUR: 'it returns false'. Refute it at one input. -/
def wholeAloneWrong : ChangeSpec := { name := "wholeAlone", fn := fun _ => fun
  | [d1, d2, d3, d4] => { results := [.lit (.bool false)], args := [d1, d2, d3, d4] }
  | _ => none }
def WholeAloneWrongFalsely : Prop := wholeAloneRow.holds Tryz.pinned (OpenSpec.ofChange wholeAloneWrong)

/-- 'stackyardtop.WholeDrain': WHATEVER THE INPUT: true; the input reads as it did. -/
def wholeDrainSpec : ChangeSpec := { name := "wholeDrain", fn := fun _ => fun
  | [d1, d2, d3, d4, d5] => { results := [.lit (.bool true)], args := [d1, d2, d3, d4, d5] }
  | _ => none }
def wholeDrainRow : OpenClaim := { program := "ytebgjfhaolgcjaagreat", sum := "6b72842b8fad89a65902d8492660a5df5571230d9b3fa9bdb47af6cea511ae5a", func := "stackyard/stackyardtop.WholeDrain", spec := "wholeDrain", unfollowed := true, recurses := true, plainKeys := false, apart := false }
def WholeDrainSaid : Prop := wholeDrainRow.holds Tryz.pinned (OpenSpec.ofChange wholeDrainSpec)

/-- ITS FALSE NEIGHBOUR: 'it returns false'. Refute it at one input. -/
def wholeDrainWrong : ChangeSpec := { name := "wholeDrain", fn := fun _ => fun
  | [d1, d2, d3, d4, d5] => { results := [.lit (.bool false)], args := [d1, d2, d3, d4, d5] }
  | _ => none }
def WholeDrainWrongFalsely : Prop := wholeDrainRow.holds Tryz.pinned (OpenSpec.ofChange wholeDrainWrong)

/- THE SECOND FORM. 'bulk': how many values and letters a reading holds, each counted each time it is reached (what is shared counts as often as it is met; a slice's spare places count too). A statement '..UptoSaid' is the law's where the arguments, and the package variables that the reading takes, are together of bulk at most 1048576: NARROWER than '..Said'. Prove '..Said' where nothing that the law and all that it calls make is longer than what came in: it says more and counts as full. Else prove '..UptoSaid'. A law counts once. -/
mutual
def uptoBulk {H : Type} : DataW H → Nat
  | .lit (.string bytes) => bytes.length + 1
  | .lit _ => 1
  | .nil => 1
  | .ptr d => uptoBulk d + 1
  | .slice elems spare => uptoBulkAll elems + uptoBulkAll spare + 1
  | .agg parts => uptoBulkAll parts + 1
  | .iface _ d => uptoBulk d + 1
  | .map entries => uptoBulkEntries entries + 1
  | .held _ => 1
def uptoBulkAll {H : Type} : List (DataW H) → Nat
  | [] => 0
  | d :: r => uptoBulk d + uptoBulkAll r
def uptoBulkEntries {H : Type} : List (Lit × DataW H) → Nat
  | [] => 0
  | x :: r => uptoBulkEntry x + uptoBulkEntries r
def uptoBulkEntry {H : Type} : Lit × DataW H → Nat
  | (.string bytes, d) => bytes.length + uptoBulk d + 1
  | (_, d) => uptoBulk d + 1
 end
def uptoSmall : (H : Type) → List (DataW H) → Bool := fun _ ds => decide (uptoBulkAll ds ≤ 1048576)
def OpenSpec.upto (s : _root_.Go.ChangeSpec) : _root_.Go.OpenSpec := { _root_.Go.OpenSpec.ofChange s with cond := some uptoSmall }

/-- 'stackyardlaw19.PlayRuns', WHERE WHAT IT READS IS OF BULK AT MOST 1048576: true; the input reads as it did. -/
def playRunsUptoRow : OpenClaim := { program := "ytebgjfhaolgcjaagreat", sum := "6b72842b8fad89a65902d8492660a5df5571230d9b3fa9bdb47af6cea511ae5a", func := "stackyard/stackyardlaw19.PlayRuns", spec := "playRuns", unfollowed := true, recurses := true, plainKeys := false, apart := false, narrowed := true }
def PlayRunsUptoSaid : Prop := playRunsUptoRow.holds Tryz.pinned (OpenSpec.upto playRunsSpec)

/-- 'stackyardlaw19.PlayLinear', WHERE WHAT IT READS IS OF BULK AT MOST 1048576: true; the input reads as it did. -/
def playLinearUptoRow : OpenClaim := { program := "ytebgjfhaolgcjaagreat", sum := "6b72842b8fad89a65902d8492660a5df5571230d9b3fa9bdb47af6cea511ae5a", func := "stackyard/stackyardlaw19.PlayLinear", spec := "playLinear", unfollowed := true, recurses := true, plainKeys := false, apart := false, narrowed := true }
def PlayLinearUptoSaid : Prop := playLinearUptoRow.holds Tryz.pinned (OpenSpec.upto playLinearSpec)

/-- 'stackyardtop.WholeClean', WHERE WHAT IT READS IS OF BULK AT MOST 1048576: true; the input reads as it did. -/
def wholeCleanUptoRow : OpenClaim := { program := "ytebgjfhaolgcjaagreat", sum := "6b72842b8fad89a65902d8492660a5df5571230d9b3fa9bdb47af6cea511ae5a", func := "stackyard/stackyardtop.WholeClean", spec := "wholeClean", unfollowed := true, recurses := true, plainKeys := false, apart := false, narrowed := true }
def WholeCleanUptoSaid : Prop := wholeCleanUptoRow.holds Tryz.pinned (OpenSpec.upto wholeCleanSpec)

/-- 'stackyardtop.WholeWindow', WHERE WHAT IT READS IS OF BULK AT MOST 1048576: true; the input reads as it did. -/
def wholeWindowUptoRow : OpenClaim := { program := "ytebgjfhaolgcjaagreat", sum := "6b72842b8fad89a65902d8492660a5df5571230d9b3fa9bdb47af6cea511ae5a", func := "stackyard/stackyardtop.WholeWindow", spec := "wholeWindow", unfollowed := true, recurses := true, plainKeys := false, apart := false, narrowed := true }
def WholeWindowUptoSaid : Prop := wholeWindowUptoRow.holds Tryz.pinned (OpenSpec.upto wholeWindowSpec)

/-- 'stackyardtop.WholeAlone', WHERE WHAT IT READS IS OF BULK AT MOST 1048576: true; the input reads as it did. -/
def wholeAloneUptoRow : OpenClaim := { program := "ytebgjfhaolgcjaagreat", sum := "6b72842b8fad89a65902d8492660a5df5571230d9b3fa9bdb47af6cea511ae5a", func := "stackyard/stackyardtop.WholeAlone", spec := "wholeAlone", unfollowed := true, recurses := true, plainKeys := false, apart := false, narrowed := true }
def WholeAloneUptoSaid : Prop := wholeAloneUptoRow.holds Tryz.pinned (OpenSpec.upto wholeAloneSpec)

/-- 'stackyardtop.WholeDrain', WHERE WHAT IT READS IS OF BULK AT MOST 1048576: true; the input reads as it did. -/
def wholeDrainUptoRow : OpenClaim := { program := "ytebgjfhaolgcjaagreat", sum := "6b72842b8fad89a65902d8492660a5df5571230d9b3fa9bdb47af6cea511ae5a", func := "stackyard/stackyardtop.WholeDrain", spec := "wholeDrain", unfollowed := true, recurses := true, plainKeys := false, apart := false, narrowed := true }
def WholeDrainUptoSaid : Prop := wholeDrainUptoRow.holds Tryz.pinned (OpenSpec.upto wholeDrainSpec)

end Rows
end Go.Proofs.YtebgjfhaolgcjaaGreat
