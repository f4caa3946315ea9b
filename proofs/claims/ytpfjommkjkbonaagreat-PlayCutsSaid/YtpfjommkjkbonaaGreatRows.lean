/-
  No cell of these rows narrows 'for every input' (looked for: loops, veiled, ifaces, maps, wideKeys, modest, calm, conditions, laid).
  DERIVED. THE GIVEN ROWS OF THIS SEAT. 8 by the template 'for every input the law returns true; each argument reads behind the call as it read before'; 0 by the template 'total and deterministic' (their statements: YtpfjommkjkbonaaGreatTotals.lean).
  GIVEN WITH THE SEED: the statements are not yours to turn. If you find one false, say at which input.
  Laid BY PROGRAM, IN A SANDBOX (cutbox-rows.mjs): the forced cells as the released guide's own fill.sh prints them over the translation a4b6e05792e61679… (all of the seat's roots in one cut). By AI agents, Wed Nov 11 2026. No macro, syntax, notation, axiom, sorry.
-/
import Derived.Test.YtpfjommkjkbonaaGreatChecked
import GoSem.Claim
import GoSem.ClaimJoined
import GoSem.ClaimMapViews
import Derived.JoinedTies
import Derived.KernelRfl
namespace Go.Proofs.YtpfjommkjkbonaaGreat
/- THE CELL 'sum', in the pinned program and in every row, IS THE sha256 OF THE DUMP (.gsa) THAT YtpfjommkjkbonaaGreatProg.lean LOADS. Nothing in Lean hashes anything: it is a label: what it is worth is what the hold of that sum in a sandbox is worth. -/
noncomputable def Tryz.pinned : Pinned := { name := "ytpfjommkjkbonaagreat", sum := "a4b6e05792e616799105b0354aae5a443096805dfc530dac9ada00f510b09132", checked := Tryz.checked }
namespace Rows
def none {H : Type} : Left H := { results := [], args := [] }

/-- 'stackyardlaw19.PlayRuns': WHATEVER THE INPUT: true; the input reads as it did. -/
def playRunsSpec : ChangeSpec := { name := "playRuns", fn := fun _ => fun
  | [d1, d2] => { results := [.lit (.bool true)], args := [d1, d2] }
  | _ => none }
def playRunsRow : OpenClaim := { program := "ytpfjommkjkbonaagreat", sum := "a4b6e05792e616799105b0354aae5a443096805dfc530dac9ada00f510b09132", func := "stackyard/stackyardlaw19.PlayRuns", spec := "playRuns", unfollowed := true, recurses := true, apart := false }
def PlayRunsSaid : Prop := playRunsRow.holds Tryz.pinned (OpenSpec.ofChange playRunsSpec)

/-- ITS FALSE NEIGHBOUR: 'it returns false'. Refute it at one input. -/
def playRunsWrong : ChangeSpec := { name := "playRuns", fn := fun _ => fun
  | [d1, d2] => { results := [.lit (.bool false)], args := [d1, d2] }
  | _ => none }
def PlayRunsWrongFalsely : Prop := playRunsRow.holds Tryz.pinned (OpenSpec.ofChange playRunsWrong)

/-- 'stackyardlaw19.PlayBytes': WHATEVER THE INPUT: true; the input reads as it did. -/
def playBytesSpec : ChangeSpec := { name := "playBytes", fn := fun _ => fun
  | [d] => { results := [.lit (.bool true)], args := [d] }
  | _ => none }
def playBytesRow : OpenClaim := { program := "ytpfjommkjkbonaagreat", sum := "a4b6e05792e616799105b0354aae5a443096805dfc530dac9ada00f510b09132", func := "stackyard/stackyardlaw19.PlayBytes", spec := "playBytes", unfollowed := true, recurses := true, apart := false }
def PlayBytesSaid : Prop := playBytesRow.holds Tryz.pinned (OpenSpec.ofChange playBytesSpec)

/-- ITS FALSE NEIGHBOUR: 'it returns false'. Refute it at one input. -/
def playBytesWrong : ChangeSpec := { name := "playBytes", fn := fun _ => fun
  | [d] => { results := [.lit (.bool false)], args := [d] }
  | _ => none }
def PlayBytesWrongFalsely : Prop := playBytesRow.holds Tryz.pinned (OpenSpec.ofChange playBytesWrong)

/-- 'stackyardlaw19.PlayLinear': WHATEVER THE INPUT: true; the input reads as it did. -/
def playLinearSpec : ChangeSpec := { name := "playLinear", fn := fun _ => fun
  | [d1, d2, d3, d4, d5] => { results := [.lit (.bool true)], args := [d1, d2, d3, d4, d5] }
  | _ => none }
def playLinearRow : OpenClaim := { program := "ytpfjommkjkbonaagreat", sum := "a4b6e05792e616799105b0354aae5a443096805dfc530dac9ada00f510b09132", func := "stackyard/stackyardlaw19.PlayLinear", spec := "playLinear", unfollowed := true, recurses := true, apart := false }
def PlayLinearSaid : Prop := playLinearRow.holds Tryz.pinned (OpenSpec.ofChange playLinearSpec)

/-- ITS FALSE NEIGHBOUR: 'it returns false'. Refute it at one input. -/
def playLinearWrong : ChangeSpec := { name := "playLinear", fn := fun _ => fun
  | [d1, d2, d3, d4, d5] => { results := [.lit (.bool false)], args := [d1, d2, d3, d4, d5] }
  | _ => none }
def PlayLinearWrongFalsely : Prop := playLinearRow.holds Tryz.pinned (OpenSpec.ofChange playLinearWrong)

/-- 'stackyardlaw19.PlaySame': WHATEVER THE INPUT: true; the input reads as it did. -/
def playSameSpec : ChangeSpec := { name := "playSame", fn := fun _ => fun
  | [d1, d2, d3, d4] => { results := [.lit (.bool true)], args := [d1, d2, d3, d4] }
  | _ => none }
def playSameRow : OpenClaim := { program := "ytpfjommkjkbonaagreat", sum := "a4b6e05792e616799105b0354aae5a443096805dfc530dac9ada00f510b09132", func := "stackyard/stackyardlaw19.PlaySame", spec := "playSame", unfollowed := true, recurses := true, apart := false }
def PlaySameSaid : Prop := playSameRow.holds Tryz.pinned (OpenSpec.ofChange playSameSpec)

/-- ITS FALSE NEIGHBOUR: 'it returns false'. Refute it at one input. -/
def playSameWrong : ChangeSpec := { name := "playSame", fn := fun _ => fun
  | [d1, d2, d3, d4] => { results := [.lit (.bool false)], args := [d1, d2, d3, d4] }
  | _ => none }
def PlaySameWrongFalsely : Prop := playSameRow.holds Tryz.pinned (OpenSpec.ofChange playSameWrong)

/-- 'stackyardlaw19.PlayCuts': WHATEVER THE INPUT: true; the input reads as it did. -/
def playCutsSpec : ChangeSpec := { name := "playCuts", fn := fun _ => fun
  | [d1, d2, d3, d4, d5] => { results := [.lit (.bool true)], args := [d1, d2, d3, d4, d5] }
  | _ => none }
def playCutsRow : OpenClaim := { program := "ytpfjommkjkbonaagreat", sum := "a4b6e05792e616799105b0354aae5a443096805dfc530dac9ada00f510b09132", func := "stackyard/stackyardlaw19.PlayCuts", spec := "playCuts", unfollowed := true, recurses := true, apart := false }
def PlayCutsSaid : Prop := playCutsRow.holds Tryz.pinned (OpenSpec.ofChange playCutsSpec)

/-- ITS FALSE NEIGHBOUR: 'it returns false'. Refute it at one input. -/
def playCutsWrong : ChangeSpec := { name := "playCuts", fn := fun _ => fun
  | [d1, d2, d3, d4, d5] => { results := [.lit (.bool false)], args := [d1, d2, d3, d4, d5] }
  | _ => none }
def PlayCutsWrongFalsely : Prop := playCutsRow.holds Tryz.pinned (OpenSpec.ofChange playCutsWrong)

/-- 'stackyardtop.WholeStack': WHATEVER THE INPUT: true; the input reads as it did. -/
def wholeStackSpec : ChangeSpec := { name := "wholeStack", fn := fun _ => fun
  | [d1, d2, d3, d4] => { results := [.lit (.bool true)], args := [d1, d2, d3, d4] }
  | _ => none }
def wholeStackRow : OpenClaim := { program := "ytpfjommkjkbonaagreat", sum := "a4b6e05792e616799105b0354aae5a443096805dfc530dac9ada00f510b09132", func := "stackyard/stackyardtop.WholeStack", spec := "wholeStack", unfollowed := true, recurses := true, apart := false }
def WholeStackSaid : Prop := wholeStackRow.holds Tryz.pinned (OpenSpec.ofChange wholeStackSpec)

/-- ITS FALSE NEIGHBOUR: 'it returns false'. Refute it at one input. -/
def wholeStackWrong : ChangeSpec := { name := "wholeStack", fn := fun _ => fun
  | [d1, d2, d3, d4] => { results := [.lit (.bool false)], args := [d1, d2, d3, d4] }
  | _ => none }
def WholeStackWrongFalsely : Prop := wholeStackRow.holds Tryz.pinned (OpenSpec.ofChange wholeStackWrong)

/-- 'stackyardtop.WholeQueue': WHATEVER THE INPUT: true; the input reads as it did. -/
def wholeQueueSpec : ChangeSpec := { name := "wholeQueue", fn := fun _ => fun
  | [d1, d2, d3, d4] => { results := [.lit (.bool true)], args := [d1, d2, d3, d4] }
  | _ => none }
def wholeQueueRow : OpenClaim := { program := "ytpfjommkjkbonaagreat", sum := "a4b6e05792e616799105b0354aae5a443096805dfc530dac9ada00f510b09132", func := "stackyard/stackyardtop.WholeQueue", spec := "wholeQueue", unfollowed := true, recurses := true, apart := false }
def WholeQueueSaid : Prop := wholeQueueRow.holds Tryz.pinned (OpenSpec.ofChange wholeQueueSpec)

/-- ITS FALSE NEIGHBOUR: 'it returns false'. Refute it at one input. -/
def wholeQueueWrong : ChangeSpec := { name := "wholeQueue", fn := fun _ => fun
  | [d1, d2, d3, d4] => { results := [.lit (.bool false)], args := [d1, d2, d3, d4] }
  | _ => none }
def WholeQueueWrongFalsely : Prop := wholeQueueRow.holds Tryz.pinned (OpenSpec.ofChange wholeQueueWrong)

/-- 'stackyardtop.WholeNear': WHATEVER THE INPUT: true; the input reads as it did. -/
def wholeNearSpec : ChangeSpec := { name := "wholeNear", fn := fun _ => fun
  | [d1, d2, d3, d4] => { results := [.lit (.bool true)], args := [d1, d2, d3, d4] }
  | _ => none }
def wholeNearRow : OpenClaim := { program := "ytpfjommkjkbonaagreat", sum := "a4b6e05792e616799105b0354aae5a443096805dfc530dac9ada00f510b09132", func := "stackyard/stackyardtop.WholeNear", spec := "wholeNear", unfollowed := true, recurses := true, apart := false }
def WholeNearSaid : Prop := wholeNearRow.holds Tryz.pinned (OpenSpec.ofChange wholeNearSpec)

/-- ITS FALSE NEIGHBOUR: 'it returns false'. Refute it at one input. -/
def wholeNearWrong : ChangeSpec := { name := "wholeNear", fn := fun _ => fun
  | [d1, d2, d3, d4] => { results := [.lit (.bool false)], args := [d1, d2, d3, d4] }
  | _ => none }
def WholeNearWrongFalsely : Prop := wholeNearRow.holds Tryz.pinned (OpenSpec.ofChange wholeNearWrong)

/- THE SECOND FORM. 'bulk': how many values and letters a reading holds, each counted each time it is reached (what is shared counts as often as it is met; a slice's spare places count too). A statement '..UptoSaid' is the law's where the arguments, and the package variables that the reading takes, are together of bulk at most 1048576: NARROWER than '..Said'. Prove '..Said' where nothing that the law and all that it calls make is longer than what came in: it says more and counts as full. Else prove '..UptoSaid'. A law counts once. -/
mutual
def uptoBulk {H : Type} : DataW H → Nat
  | .lit (.string bytes) => bytes.length + 1
  | .lit _ => 1
  | .nil => 1
  | .ptr d => uptoBulk d + 1
  | .slice elems spare => uptoBulkAll elems + uptoBulkAll spare + 1
  | .agg parts => uptoBulkAll parts + 1
  | .iface _ d => uptoBulk d + 1
  | .map entries => uptoBulkEntries entries + 1
  | .held _ => 1
def uptoBulkAll {H : Type} : List (DataW H) → Nat
  | [] => 0
  | d :: r => uptoBulk d + uptoBulkAll r
def uptoBulkEntries {H : Type} : List (Lit × DataW H) → Nat
  | [] => 0
  | x :: r => uptoBulkEntry x + uptoBulkEntries r
def uptoBulkEntry {H : Type} : Lit × DataW H → Nat
  | (.string bytes, d) => bytes.length + uptoBulk d + 1
  | (_, d) => uptoBulk d + 1
 end
def uptoSmall : (H : Type) → List (DataW H) → Bool := fun _ ds => decide (uptoBulkAll ds ≤ 1048576)
def OpenSpec.upto (s : _root_.Go.ChangeSpec) : _root_.Go.OpenSpec := { _root_.Go.OpenSpec.ofChange s with cond := some uptoSmall }

/-- 'stackyardlaw19.PlayRuns', WHERE WHAT IT READS IS OF BULK AT MOST 1048576: true; the input reads as it did. -/
def playRunsUptoRow : OpenClaim := { program := "ytpfjommkjkbonaagreat", sum := "a4b6e05792e616799105b0354aae5a443096805dfc530dac9ada00f510b09132", func := "stackyard/stackyardlaw19.PlayRuns", spec := "playRuns", unfollowed := true, recurses := true, apart := false, narrowed := true }
def PlayRunsUptoSaid : Prop := playRunsUptoRow.holds Tryz.pinned (OpenSpec.upto playRunsSpec)

/-- 'stackyardlaw19.PlayBytes', WHERE WHAT IT READS IS OF BULK AT MOST 1048576: true; the input reads as it did. -/
def playBytesUptoRow : OpenClaim := { program := "ytpfjommkjkbonaagreat", sum := "a4b6e05792e616799105b0354aae5a443096805dfc530dac9ada00f510b09132", func := "stackyard/stackyardlaw19.PlayBytes", spec := "playBytes", unfollowed := true, recurses := true, apart := false, narrowed := true }
def PlayBytesUptoSaid : Prop := playBytesUptoRow.holds Tryz.pinned (OpenSpec.upto playBytesSpec)

/-- 'stackyardlaw19.PlayLinear', WHERE WHAT IT READS IS OF BULK AT MOST 1048576: true; the input reads as it did. -/
def playLinearUptoRow : OpenClaim := { program := "ytpfjommkjkbonaagreat", sum := "a4b6e05792e616799105b0354aae5a443096805dfc530dac9ada00f510b09132", func := "stackyard/stackyardlaw19.PlayLinear", spec := "playLinear", unfollowed := true, recurses := true, apart := false, narrowed := true }
def PlayLinearUptoSaid : Prop := playLinearUptoRow.holds Tryz.pinned (OpenSpec.upto playLinearSpec)

/-- 'stackyardlaw19.PlaySame', WHERE WHAT IT READS IS OF BULK AT MOST 1048576: true; the input reads as it did. -/
def playSameUptoRow : OpenClaim := { program := "ytpfjommkjkbonaagreat", sum := "a4b6e05792e616799105b0354aae5a443096805dfc530dac9ada00f510b09132", func := "stackyard/stackyardlaw19.PlaySame", spec := "playSame", unfollowed := true, recurses := true, apart := false, narrowed := true }
def PlaySameUptoSaid : Prop := playSameUptoRow.holds Tryz.pinned (OpenSpec.upto playSameSpec)

/-- 'stackyardlaw19.PlayCuts', WHERE WHAT IT READS IS OF BULK AT MOST 1048576: true; the input reads as it did. -/
def playCutsUptoRow : OpenClaim := { program := "ytpfjommkjkbonaagreat", sum := "a4b6e05792e616799105b0354aae5a443096805dfc530dac9ada00f510b09132", func := "stackyard/stackyardlaw19.PlayCuts", spec := "playCuts", unfollowed := true, recurses := true, apart := false, narrowed := true }
def PlayCutsUptoSaid : Prop := playCutsUptoRow.holds Tryz.pinned (OpenSpec.upto playCutsSpec)

/-- 'stackyardtop.WholeStack', WHERE WHAT IT READS IS OF BULK AT MOST 1048576: true; the input reads as it did. -/
def wholeStackUptoRow : OpenClaim := { program := "ytpfjommkjkbonaagreat", sum := "a4b6e05792e616799105b0354aae5a443096805dfc530dac9ada00f510b09132", func := "stackyard/stackyardtop.WholeStack", spec := "wholeStack", unfollowed := true, recurses := true, apart := false, narrowed := true }
def WholeStackUptoSaid : Prop := wholeStackUptoRow.holds Tryz.pinned (OpenSpec.upto wholeStackSpec)

/-- 'stackyardtop.WholeQueue', WHERE WHAT IT READS IS OF BULK AT MOST 1048576: true; the input reads as it did. -/
def wholeQueueUptoRow : OpenClaim := { program := "ytpfjommkjkbonaagreat", sum := "a4b6e05792e616799105b0354aae5a443096805dfc530dac9ada00f510b09132", func := "stackyard/stackyardtop.WholeQueue", spec := "wholeQueue", unfollowed := true, recurses := true, apart := false, narrowed := true }
def WholeQueueUptoSaid : Prop := wholeQueueUptoRow.holds Tryz.pinned (OpenSpec.upto wholeQueueSpec)

/-- 'stackyardtop.WholeNear', WHERE WHAT IT READS IS OF BULK AT MOST 1048576: true; the input reads as it did. -/
def wholeNearUptoRow : OpenClaim := { program := "ytpfjommkjkbonaagreat", sum := "a4b6e05792e616799105b0354aae5a443096805dfc530dac9ada00f510b09132", func := "stackyard/stackyardtop.WholeNear", spec := "wholeNear", unfollowed := true, recurses := true, apart := false, narrowed := true }
def WholeNearUptoSaid : Prop := wholeNearUptoRow.holds Tryz.pinned (OpenSpec.upto wholeNearSpec)

end Rows
end Go.Proofs.YtpfjommkjkbonaaGreat
