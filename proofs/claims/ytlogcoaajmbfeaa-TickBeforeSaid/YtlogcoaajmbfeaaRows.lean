/-
  No cell of these rows narrows 'for every input' (looked for: loops, veiled, ifaces, maps, wideKeys, modest, calm, conditions, laid).
  DERIVED. THE GIVEN ROWS OF THIS SEAT. 5 by the template 'for every input the law returns true; each argument reads behind the call as it read before'; 0 by the template 'total and deterministic' (their statements: YtlogcoaajmbfeaaTotals.lean).
  GIVEN WITH THE SEED: the statements are not yours to turn. If you find one false, say at which input.
  Laid BY PROGRAM, IN A SANDBOX (cutbox-rows.mjs): the forced cells as the released guide's own fill.sh prints them over the translation 5a75a048eddf0b41… (all of the seat's roots in one cut). By AI agents, Wed Nov 11 2026. No macro, syntax, notation, axiom, sorry.
-/
import Derived.Test.YtlogcoaajmbfeaaChecked
import GoSem.Claim
import GoSem.ClaimJoined
import GoSem.ClaimMapViews
import Derived.JoinedTies
import Derived.KernelRfl
namespace Go.Proofs.Ytlogcoaajmbfeaa
/- THE CELL 'sum', in the pinned program and in every row, IS THE sha256 OF THE DUMP (.gsa) THAT YtlogcoaajmbfeaaProg.lean LOADS. Nothing in Lean hashes anything: it is a label: what it is worth is what the hold of that sum in a sandbox is worth. -/
noncomputable def Try.pinned : Pinned := { name := "ytlogcoaajmbfeaa", sum := "5a75a048eddf0b41c21583dac4dea37efa3c92f582b5e1fc9c50045a07215ee9", checked := Try.checked }
namespace Rows
def none {H : Type} : Left H := { results := [], args := [] }

/-- 'stackyardlaw05.TickSteps': WHATEVER THE INPUT: true; the input reads as it did. -/
def tickStepsSpec : ChangeSpec := { name := "tickSteps", fn := fun _ => fun
  | [d1, d2, d3, d4, d5] => { results := [.lit (.bool true)], args := [d1, d2, d3, d4, d5] }
  | _ => none }
def tickStepsRow : OpenClaim := { program := "ytlogcoaajmbfeaa", sum := "5a75a048eddf0b41c21583dac4dea37efa3c92f582b5e1fc9c50045a07215ee9", func := "stackyard/stackyardlaw05.TickSteps", spec := "tickSteps", apart := false }
def TickStepsSaid : Prop := tickStepsRow.holds Try.pinned (OpenSpec.ofChange tickStepsSpec)

/-- ITS FALSE NEIGHBOUR: 'it returns false'. Refute it at one input. -/
def tickStepsWrong : ChangeSpec := { name := "tickSteps", fn := fun _ => fun
  | [d1, d2, d3, d4, d5] => { results := [.lit (.bool false)], args := [d1, d2, d3, d4, d5] }
  | _ => none }
def TickStepsWrongFalsely : Prop := tickStepsRow.holds Try.pinned (OpenSpec.ofChange tickStepsWrong)

/-- 'stackyardlaw05.TickMost': WHATEVER THE INPUT: true; the input reads as it did. -/
def tickMostSpec : ChangeSpec := { name := "tickMost", fn := fun _ => fun
  | [d1, d2, d3, d4, d5] => { results := [.lit (.bool true)], args := [d1, d2, d3, d4, d5] }
  | _ => none }
def tickMostRow : OpenClaim := { program := "ytlogcoaajmbfeaa", sum := "5a75a048eddf0b41c21583dac4dea37efa3c92f582b5e1fc9c50045a07215ee9", func := "stackyard/stackyardlaw05.TickMost", spec := "tickMost", apart := false }
def TickMostSaid : Prop := tickMostRow.holds Try.pinned (OpenSpec.ofChange tickMostSpec)

/-- ITS FALSE NEIGHBOUR: 'it returns false'. Refute it at one input. -/
def tickMostWrong : ChangeSpec := { name := "tickMost", fn := fun _ => fun
  | [d1, d2, d3, d4, d5] => { results := [.lit (.bool false)], args := [d1, d2, d3, d4, d5] }
  | _ => none }
def TickMostWrongFalsely : Prop := tickMostRow.holds Try.pinned (OpenSpec.ofChange tickMostWrong)

/-- 'stackyardlaw05.TickBefore': WHATEVER THE INPUT: true; the input reads as it did. -/
def tickBeforeSpec : ChangeSpec := { name := "tickBefore", fn := fun _ => fun
  | [d1, d2, d3, d4, d5] => { results := [.lit (.bool true)], args := [d1, d2, d3, d4, d5] }
  | _ => none }
def tickBeforeRow : OpenClaim := { program := "ytlogcoaajmbfeaa", sum := "5a75a048eddf0b41c21583dac4dea37efa3c92f582b5e1fc9c50045a07215ee9", func := "stackyard/stackyardlaw05.TickBefore", spec := "tickBefore", apart := false }
def TickBeforeSaid : Prop := tickBeforeRow.holds Try.pinned (OpenSpec.ofChange tickBeforeSpec)

/-- ITS FALSE NEIGHBOUR: 'it returns false'. Refute it at one input. -/
def tickBeforeWrong : ChangeSpec := { name := "tickBefore", fn := fun _ => fun
  | [d1, d2, d3, d4, d5] => { results := [.lit (.bool false)], args := [d1, d2, d3, d4, d5] }
  | _ => none }
def TickBeforeWrongFalsely : Prop := tickBeforeRow.holds Try.pinned (OpenSpec.ofChange tickBeforeWrong)

/-- 'stackyardlaw05.TickFull': WHATEVER THE INPUT: true; the input reads as it did. -/
def tickFullSpec : ChangeSpec := { name := "tickFull", fn := fun _ => fun
  | [d1, d2, d3, d4] => { results := [.lit (.bool true)], args := [d1, d2, d3, d4] }
  | _ => none }
def tickFullRow : OpenClaim := { program := "ytlogcoaajmbfeaa", sum := "5a75a048eddf0b41c21583dac4dea37efa3c92f582b5e1fc9c50045a07215ee9", func := "stackyard/stackyardlaw05.TickFull", spec := "tickFull", apart := false }
def TickFullSaid : Prop := tickFullRow.holds Try.pinned (OpenSpec.ofChange tickFullSpec)

/-- ITS FALSE NEIGHBOUR: 'it returns false'. Refute it at one input. -/
def tickFullWrong : ChangeSpec := { name := "tickFull", fn := fun _ => fun
  | [d1, d2, d3, d4] => { results := [.lit (.bool false)], args := [d1, d2, d3, d4] }
  | _ => none }
def TickFullWrongFalsely : Prop := tickFullRow.holds Try.pinned (OpenSpec.ofChange tickFullWrong)

/-- 'stackyardlaw05.TickRises': WHATEVER THE INPUT: true; the input reads as it did. -/
def tickRisesSpec : ChangeSpec := { name := "tickRises", fn := fun _ => fun
  | [d1, d2, d3, d4, d5] => { results := [.lit (.bool true)], args := [d1, d2, d3, d4, d5] }
  | _ => none }
def tickRisesRow : OpenClaim := { program := "ytlogcoaajmbfeaa", sum := "5a75a048eddf0b41c21583dac4dea37efa3c92f582b5e1fc9c50045a07215ee9", func := "stackyard/stackyardlaw05.TickRises", spec := "tickRises", apart := false }
def TickRisesSaid : Prop := tickRisesRow.holds Try.pinned (OpenSpec.ofChange tickRisesSpec)

/-- ITS FALSE NEIGHBOUR: 'it returns false'. Refute it at one input. -/
def tickRisesWrong : ChangeSpec := { name := "tickRises", fn := fun _ => fun
  | [d1, d2, d3, d4, d5] => { results := [.lit (.bool false)], args := [d1, d2, d3, d4, d5] }
  | _ => none }
def TickRisesWrongFalsely : Prop := tickRisesRow.holds Try.pinned (OpenSpec.ofChange tickRisesWrong)

/- THE SECOND FORM. 'bulk': how many values and letters a reading holds, each counted each time it is reached (what is shared counts as often as it is met; a slice's spare places count too). A statement '..UptoSaid' is the law's where the arguments, and the package variables that the reading takes, are together of bulk at most 1048576: NARROWER than '..Said'. Prove '..Said' where nothing that the law and all that it calls make is longer than what came in: it says more and counts as full. Else prove '..UptoSaid'. A law counts once. -/
mutual
def uptoBulk {H : Type} : DataW H → Nat
  | .lit (.string bytes) => bytes.length + 1
  | .lit _ => 1
  | .nil => 1
  | .ptr d => uptoBulk d + 1
  | .slice elems spare => uptoBulkAll elems + uptoBulkAll spare + 1
  | .agg parts => uptoBulkAll parts + 1
  | .iface _ d => uptoBulk d + 1
  | .map entries => uptoBulkEntries entries + 1
  | .held _ => 1
def uptoBulkAll {H : Type} : List (DataW H) → Nat
  | [] => 0
  | d :: r => uptoBulk d + uptoBulkAll r
def uptoBulkEntries {H : Type} : List (Lit × DataW H) → Nat
  | [] => 0
  | x :: r => uptoBulkEntry x + uptoBulkEntries r
def uptoBulkEntry {H : Type} : Lit × DataW H → Nat
  | (.string bytes, d) => bytes.length + uptoBulk d + 1
  | (_, d) => uptoBulk d + 1
 end
def uptoSmall : (H : Type) → List (DataW H) → Bool := fun _ ds => decide (uptoBulkAll ds ≤ 1048576)
def OpenSpec.upto (s : _root_.Go.ChangeSpec) : _root_.Go.OpenSpec := { _root_.Go.OpenSpec.ofChange s with cond := some uptoSmall }

/-- 'stackyardlaw05.TickSteps', WHERE WHAT IT READS IS OF BULK AT MOST 1048576: true; the input reads as it did. -/
def tickStepsUptoRow : OpenClaim := { program := "ytlogcoaajmbfeaa", sum := "5a75a048eddf0b41c21583dac4dea37efa3c92f582b5e1fc9c50045a07215ee9", func := "stackyard/stackyardlaw05.TickSteps", spec := "tickSteps", apart := false, narrowed := true }
def TickStepsUptoSaid : Prop := tickStepsUptoRow.holds Try.pinned (OpenSpec.upto tickStepsSpec)

/-- 'stackyardlaw05.TickMost', WHERE WHAT IT READS IS OF BULK AT MOST 1048576: true; the input reads as it did. -/
def tickMostUptoRow : OpenClaim := { program := "ytlogcoaajmbfeaa", sum := "5a75a048eddf0b41c21583dac4dea37efa3c92f582b5e1fc9c50045a07215ee9", func := "stackyard/stackyardlaw05.TickMost", spec := "tickMost", apart := false, narrowed := true }
def TickMostUptoSaid : Prop := tickMostUptoRow.holds Try.pinned (OpenSpec.upto tickMostSpec)

/-- 'stackyardlaw05.TickBefore', WHERE WHAT IT READS IS OF BULK AT MOST 1048576: true; the input reads as it did. -/
def tickBeforeUptoRow : OpenClaim := { program := "ytlogcoaajmbfeaa", sum := "5a75a048eddf0b41c21583dac4dea37efa3c92f582b5e1fc9c50045a07215ee9", func := "stackyard/stackyardlaw05.TickBefore", spec := "tickBefore", apart := false, narrowed := true }
def TickBeforeUptoSaid : Prop := tickBeforeUptoRow.holds Try.pinned (OpenSpec.upto tickBeforeSpec)

/-- 'stackyardlaw05.TickFull', WHERE WHAT IT READS IS OF BULK AT MOST 1048576: true; the input reads as it did. -/
def tickFullUptoRow : OpenClaim := { program := "ytlogcoaajmbfeaa", sum := "5a75a048eddf0b41c21583dac4dea37efa3c92f582b5e1fc9c50045a07215ee9", func := "stackyard/stackyardlaw05.TickFull", spec := "tickFull", apart := false, narrowed := true }
def TickFullUptoSaid : Prop := tickFullUptoRow.holds Try.pinned (OpenSpec.upto tickFullSpec)

/-- 'stackyardlaw05.TickRises', WHERE WHAT IT READS IS OF BULK AT MOST 1048576: true; the input reads as it did. -/
def tickRisesUptoRow : OpenClaim := { program := "ytlogcoaajmbfeaa", sum := "5a75a048eddf0b41c21583dac4dea37efa3c92f582b5e1fc9c50045a07215ee9", func := "stackyard/stackyardlaw05.TickRises", spec := "tickRises", apart := false, narrowed := true }
def TickRisesUptoSaid : Prop := tickRisesUptoRow.holds Try.pinned (OpenSpec.upto tickRisesSpec)

end Rows
end Go.Proofs.Ytlogcoaajmbfeaa
