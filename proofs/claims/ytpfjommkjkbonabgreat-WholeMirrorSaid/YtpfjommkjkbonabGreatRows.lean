/-
  No cell of these rows narrows 'for every input' (looked for: loops, veiled, ifaces, maps, wideKeys, modest, calm, conditions, laid).
  DERIVED. THE GIVEN ROWS OF THIS SEAT. 12 by the template 'for every input the law returns true; each argument reads behind the call as it read before'; 0 by the template 'total and deterministic' (their statements: YtpfjommkjkbonabGreatTotals.lean).
  GIVEN WITH THE SEED: the statements are not yours to turn. If you find one false, say at which input.
  Laid BY PROGRAM, IN A SANDBOX (cutbox-rows.mjs): the forced cells as the released guide's own fill.sh prints them over the translation eb202a84af1e1676… (all of the seat's roots in one cut). By AI agents, Wed Nov 11 2026. No macro, syntax, notation, axiom, sorry.
-/
import Derived.Test.YtpfjommkjkbonabGreatChecked
import GoSem.Claim
import GoSem.ClaimJoined
import GoSem.ClaimMapViews
import Derived.JoinedTies
import Derived.KernelRfl
namespace Go.Proofs.YtpfjommkjkbonabGreat
/- THE CELL 'sum', in the pinned program and in every row, IS THE sha256 OF THE DUMP (.gsa) THAT YtpfjommkjkbonabGreatProg.lean LOADS. Nothing in Lean hashes anything: it is a label: what it is worth is what the hold of that sum in a sandbox is worth. -/
noncomputable def Tryz.pinned : Pinned := { name := "ytpfjommkjkbonabgreat", sum := "eb202a84af1e167610926d24ee704a71acfd28fb6d8568014772de3b187afa5b", checked := Tryz.checked }
namespace Rows
def none {H : Type} : Left H := { results := [], args := [] }

/-- 'stackyardtop.WholeEmpty': WHATEVER THE INPUT: true; the input reads as it did. -/
def wholeEmptySpec : ChangeSpec := { name := "wholeEmpty", fn := fun _ => fun
  | [d1, d2, d3, d4] => { results := [.lit (.bool true)], args := [d1, d2, d3, d4] }
  | _ => none }
def wholeEmptyRow : OpenClaim := { program := "ytpfjommkjkbonabgreat", sum := "eb202a84af1e167610926d24ee704a71acfd28fb6d8568014772de3b187afa5b", func := "stackyard/stackyardtop.WholeEmpty", spec := "wholeEmpty", unfollowed := true, recurses := true, plainKeys := false, apart := false }
def WholeEmptySaid : Prop := wholeEmptyRow.holds Tryz.pinned (OpenSpec.ofChange wholeEmptySpec)

/-- ITS FALSE NEIGHBOUR: 'it returns false'. Refute it at one input. -/
def wholeEmptyWrong : ChangeSpec := { name := "wholeEmpty", fn := fun _ => fun
  | [d1, d2, d3, d4] => { results := [.lit (.bool false)], args := [d1, d2, d3, d4] }
  | _ => none }
def WholeEmptyWrongFalsely : Prop := wholeEmptyRow.holds Tryz.pinned (OpenSpec.ofChange wholeEmptyWrong)

/-- 'stackyardtop.WholeOnce': WHATEVER THE INPUT: true; the input reads as it did. -/
def wholeOnceSpec : ChangeSpec := { name := "wholeOnce", fn := fun _ => fun
  | [d1, d2, d3, d4] => { results := [.lit (.bool true)], args := [d1, d2, d3, d4] }
  | _ => none }
def wholeOnceRow : OpenClaim := { program := "ytpfjommkjkbonabgreat", sum := "eb202a84af1e167610926d24ee704a71acfd28fb6d8568014772de3b187afa5b", func := "stackyard/stackyardtop.WholeOnce", spec := "wholeOnce", unfollowed := true, recurses := true, plainKeys := false, apart := false }
def WholeOnceSaid : Prop := wholeOnceRow.holds Tryz.pinned (OpenSpec.ofChange wholeOnceSpec)

/-- ITS FALSE NEIGHBOUR: 'it returns false'. Refute it at one input. -/
def wholeOnceWrong : ChangeSpec := { name := "wholeOnce", fn := fun _ => fun
  | [d1, d2, d3, d4] => { results := [.lit (.bool false)], args := [d1, d2, d3, d4] }
  | _ => none }
def WholeOnceWrongFalsely : Prop := wholeOnceRow.holds Tryz.pinned (OpenSpec.ofChange wholeOnceWrong)

/-- 'stackyardtop.WholeStamps': WHATEVER THE INPUT: true; the input reads as it did. -/
def wholeStampsSpec : ChangeSpec := { name := "wholeStamps", fn := fun _ => fun
  | [d1, d2, d3, d4] => { results := [.lit (.bool true)], args := [d1, d2, d3, d4] }
  | _ => none }
def wholeStampsRow : OpenClaim := { program := "ytpfjommkjkbonabgreat", sum := "eb202a84af1e167610926d24ee704a71acfd28fb6d8568014772de3b187afa5b", func := "stackyard/stackyardtop.WholeStamps", spec := "wholeStamps", unfollowed := true, recurses := true, plainKeys := false, apart := false }
def WholeStampsSaid : Prop := wholeStampsRow.holds Tryz.pinned (OpenSpec.ofChange wholeStampsSpec)

/-- ITS FALSE NEIGHBOUR: 'it returns false'. Refute it at one input. -/
def wholeStampsWrong : ChangeSpec := { name := "wholeStamps", fn := fun _ => fun
  | [d1, d2, d3, d4] => { results := [.lit (.bool false)], args := [d1, d2, d3, d4] }
  | _ => none }
def WholeStampsWrongFalsely : Prop := wholeStampsRow.holds Tryz.pinned (OpenSpec.ofChange wholeStampsWrong)

/-- 'stackyardtop.WholeClean': WHATEVER THE INPUT: true; the input reads as it did. -/
def wholeCleanSpec : ChangeSpec := { name := "wholeClean", fn := fun _ => fun
  | [d1, d2, d3, d4] => { results := [.lit (.bool true)], args := [d1, d2, d3, d4] }
  | _ => none }
def wholeCleanRow : OpenClaim := { program := "ytpfjommkjkbonabgreat", sum := "eb202a84af1e167610926d24ee704a71acfd28fb6d8568014772de3b187afa5b", func := "stackyard/stackyardtop.WholeClean", spec := "wholeClean", unfollowed := true, recurses := true, plainKeys := false, apart := false }
def WholeCleanSaid : Prop := wholeCleanRow.holds Tryz.pinned (OpenSpec.ofChange wholeCleanSpec)

/-- ITS FALSE NEIGHBOUR: 'it returns false'. Refute it at one input. -/
def wholeCleanWrong : ChangeSpec := { name := "wholeClean", fn := fun _ => fun
  | [d1, d2, d3, d4] => { results := [.lit (.bool false)], args := [d1, d2, d3, d4] }
  | _ => none }
def WholeCleanWrongFalsely : Prop := wholeCleanRow.holds Tryz.pinned (OpenSpec.ofChange wholeCleanWrong)

/-- 'stackyardtop.WholeWindow': WHATEVER THE INPUT: true; the input reads as it did. -/
def wholeWindowSpec : ChangeSpec := { name := "wholeWindow", fn := fun _ => fun
  | [d1, d2, d3, d4, d5] => { results := [.lit (.bool true)], args := [d1, d2, d3, d4, d5] }
  | _ => none }
def wholeWindowRow : OpenClaim := { program := "ytpfjommkjkbonabgreat", sum := "eb202a84af1e167610926d24ee704a71acfd28fb6d8568014772de3b187afa5b", func := "stackyard/stackyardtop.WholeWindow", spec := "wholeWindow", unfollowed := true, recurses := true, plainKeys := false, apart := false }
def WholeWindowSaid : Prop := wholeWindowRow.holds Tryz.pinned (OpenSpec.ofChange wholeWindowSpec)

/-- ITS FALSE NEIGHBOUR: 'it returns false'. Refute it at one input. -/
def wholeWindowWrong : ChangeSpec := { name := "wholeWindow", fn := fun _ => fun
  | [d1, d2, d3, d4, d5] => { results := [.lit (.bool false)], args := [d1, d2, d3, d4, d5] }
  | _ => none }
def WholeWindowWrongFalsely : Prop := wholeWindowRow.holds Tryz.pinned (OpenSpec.ofChange wholeWindowWrong)

/-- 'stackyardtop.WholeRoom': WHATEVER THE INPUT: true; the input reads as it did. -/
def wholeRoomSpec : ChangeSpec := { name := "wholeRoom", fn := fun _ => fun
  | [d1, d2, d3, d4] => { results := [.lit (.bool true)], args := [d1, d2, d3, d4] }
  | _ => none }
def wholeRoomRow : OpenClaim := { program := "ytpfjommkjkbonabgreat", sum := "eb202a84af1e167610926d24ee704a71acfd28fb6d8568014772de3b187afa5b", func := "stackyard/stackyardtop.WholeRoom", spec := "wholeRoom", unfollowed := true, recurses := true, plainKeys := false, apart := false }
def WholeRoomSaid : Prop := wholeRoomRow.holds Tryz.pinned (OpenSpec.ofChange wholeRoomSpec)

/-- ITS FALSE NEIGHBOUR: 'it returns false'. Refute it at one input. -/
def wholeRoomWrong : ChangeSpec := { name := "wholeRoom", fn := fun _ => fun
  | [d1, d2, d3, d4] => { results := [.lit (.bool false)], args := [d1, d2, d3, d4] }
  | _ => none }
def WholeRoomWrongFalsely : Prop := wholeRoomRow.holds Tryz.pinned (OpenSpec.ofChange wholeRoomWrong)

/-- 'stackyardtop.WholeGens': WHATEVER THE INPUT: true; the input reads as it did. -/
def wholeGensSpec : ChangeSpec := { name := "wholeGens", fn := fun _ => fun
  | [d1, d2, d3, d4] => { results := [.lit (.bool true)], args := [d1, d2, d3, d4] }
  | _ => none }
def wholeGensRow : OpenClaim := { program := "ytpfjommkjkbonabgreat", sum := "eb202a84af1e167610926d24ee704a71acfd28fb6d8568014772de3b187afa5b", func := "stackyard/stackyardtop.WholeGens", spec := "wholeGens", unfollowed := true, recurses := true, plainKeys := false, apart := false }
def WholeGensSaid : Prop := wholeGensRow.holds Tryz.pinned (OpenSpec.ofChange wholeGensSpec)

/-- ITS FALSE NEIGHBOUR: 'it returns false'. Refute it at one input. -/
def wholeGensWrong : ChangeSpec := { name := "wholeGens", fn := fun _ => fun
  | [d1, d2, d3, d4] => { results := [.lit (.bool false)], args := [d1, d2, d3, d4] }
  | _ => none }
def WholeGensWrongFalsely : Prop := wholeGensRow.holds Tryz.pinned (OpenSpec.ofChange wholeGensWrong)

/-- 'stackyardtop.WholeAlone': WHATEVER THE INPUT: true; the input reads as it did. -/
def wholeAloneSpec : ChangeSpec := { name := "wholeAlone", fn := fun _ => fun
  | [d1, d2, d3, d4] => { results := [.lit (.bool true)], args := [d1, d2, d3, d4] }
  | _ => none }
def wholeAloneRow : OpenClaim := { program := "ytpfjommkjkbonabgreat", sum := "eb202a84af1e167610926d24ee704a71acfd28fb6d8568014772de3b187afa5b", func := "stackyard/stackyardtop.WholeAlone", spec := "wholeAlone", unfollowed := true, recurses := true, plainKeys := false, apart := false }
def WholeAloneSaid : Prop := wholeAloneRow.holds Tryz.pinned (OpenSpec.ofChange wholeAloneSpec)

/-- ITS FALSE NEIGHBOUR: 'it returns false'. Refute it at one input. -/
def wholeAloneWrong : ChangeSpec := { name := "wholeAlone", fn := fun _ => fun
  | [d1, d2, d3, d4] => { results := [.lit (.bool false)], args := [d1, d2, d3, d4] }
  | _ => none }
def WholeAloneWrongFalsely : Prop := wholeAloneRow.holds Tryz.pinned (OpenSpec.ofChange wholeAloneWrong)

/-- 'stackyardtop.WholeDrain': WHATEVER THE INPUT: true; the input reads as it did. -/
def wholeDrainSpec : ChangeSpec := { name := "wholeDrain", fn := fun _ => fun
  | [d1, d2, d3, d4, d5] => { results := [.lit (.bool true)], args := [d1, d2, d3, d4, d5] }
  | _ => none }
def wholeDrainRow : OpenClaim := { program := "ytpfjommkjkbonabgreat", sum := "eb202a84af1e167610926d24ee704a71acfd28fb6d8568014772de3b187afa5b", func := "stackyard/stackyardtop.WholeDrain", spec := "wholeDrain", unfollowed := true, recurses := true, plainKeys := false, apart := false }
def WholeDrainSaid : Prop := wholeDrainRow.holds Tryz.pinned (OpenSpec.ofChange wholeDrainSpec)

/-- ITS FALSE NEIGHBOUR: 'it returns false'. Refute it at one input. -/
def wholeDrainWrong : ChangeSpec := { name := "wholeDrain", fn := fun _ => fun
  | [d1, d2, d3, d4, d5] => { results := [.lit (.bool false)], args := [d1, d2, d3, d4, d5] }
  | _ => none }
def WholeDrainWrongFalsely : Prop := wholeDrainRow.holds Tryz.pinned (OpenSpec.ofChange wholeDrainWrong)

/-- 'stackyardtop.WholeMirror': WHATEVER THE INPUT: true; the input reads as it did. -/
def wholeMirrorSpec : ChangeSpec := { name := "wholeMirror", fn := fun _ => fun
  | [d1, d2, d3, d4] => { results := [.lit (.bool true)], args := [d1, d2, d3, d4] }
  | _ => none }
def wholeMirrorRow : OpenClaim := { program := "ytpfjommkjkbonabgreat", sum := "eb202a84af1e167610926d24ee704a71acfd28fb6d8568014772de3b187afa5b", func := "stackyard/stackyardtop.WholeMirror", spec := "wholeMirror", unfollowed := true, recurses := true, plainKeys := false, apart := false }
def WholeMirrorSaid : Prop := wholeMirrorRow.holds Tryz.pinned (OpenSpec.ofChange wholeMirrorSpec)

/-- ITS FALSE NEIGHBOUR: 'it returns false'. Refute it at one input. -/
def wholeMirrorWrong : ChangeSpec := { name := "wholeMirror", fn := fun _ => fun
  | [d1, d2, d3, d4] => { results := [.lit (.bool false)], args := [d1, d2, d3, d4] }
  | _ => none }
def WholeMirrorWrongFalsely : Prop := wholeMirrorRow.holds Tryz.pinned (OpenSpec.ofChange wholeMirrorWrong)

/-- 'stackyardtop.WholeTimes': WHATEVER THE INPUT: true; the input reads as it did. -/
def wholeTimesSpec : ChangeSpec := { name := "wholeTimes", fn := fun _ => fun
  | [d1, d2, d3, d4] => { results := [.lit (.bool true)], args := [d1, d2, d3, d4] }
  | _ => none }
def wholeTimesRow : OpenClaim := { program := "ytpfjommkjkbonabgreat", sum := "eb202a84af1e167610926d24ee704a71acfd28fb6d8568014772de3b187afa5b", func := "stackyard/stackyardtop.WholeTimes", spec := "wholeTimes", unfollowed := true, recurses := true, plainKeys := false, apart := false }
def WholeTimesSaid : Prop := wholeTimesRow.holds Tryz.pinned (OpenSpec.ofChange wholeTimesSpec)

/-- ITS FALSE NEIGHBOUR: 'it returns false'. Refute it at one input. -/
def wholeTimesWrong : ChangeSpec := { name := "wholeTimes", fn := fun _ => fun
  | [d1, d2, d3, d4] => { results := [.lit (.bool false)], args := [d1, d2, d3, d4] }
  | _ => none }
def WholeTimesWrongFalsely : Prop := wholeTimesRow.holds Tryz.pinned (OpenSpec.ofChange wholeTimesWrong)

/-- 'stackyardtop.WholeValues': WHATEVER THE INPUT: true; the input reads as it did. -/
def wholeValuesSpec : ChangeSpec := { name := "wholeValues", fn := fun _ => fun
  | [d1, d2, d3, d4, d5] => { results := [.lit (.bool true)], args := [d1, d2, d3, d4, d5] }
  | _ => none }
def wholeValuesRow : OpenClaim := { program := "ytpfjommkjkbonabgreat", sum := "eb202a84af1e167610926d24ee704a71acfd28fb6d8568014772de3b187afa5b", func := "stackyard/stackyardtop.WholeValues", spec := "wholeValues", unfollowed := true, recurses := true, plainKeys := false, apart := false }
def WholeValuesSaid : Prop := wholeValuesRow.holds Tryz.pinned (OpenSpec.ofChange wholeValuesSpec)

/-- ITS FALSE NEIGHBOUR: 'it returns false'. Refute it at one input. -/
def wholeValuesWrong : ChangeSpec := { name := "wholeValues", fn := fun _ => fun
  | [d1, d2, d3, d4, d5] => { results := [.lit (.bool false)], args := [d1, d2, d3, d4, d5] }
  | _ => none }
def WholeValuesWrongFalsely : Prop := wholeValuesRow.holds Tryz.pinned (OpenSpec.ofChange wholeValuesWrong)

/- THE SECOND FORM. 'bulk': how many values and letters a reading holds, each counted each time it is reached (what is shared counts as often as it is met; a slice's spare places count too). A statement '..UptoSaid' is the law's where the arguments, and the package variables that the reading takes, are together of bulk at most 1048576: NARROWER than '..Said'. Prove '..Said' where nothing that the law and all that it calls make is longer than what came in: it says more and counts as full. Else prove '..UptoSaid'. A law counts once. -/
mutual
def uptoBulk {H : Type} : DataW H → Nat
  | .lit (.string bytes) => bytes.length + 1
  | .lit _ => 1
  | .nil => 1
  | .ptr d => uptoBulk d + 1
  | .slice elems spare => uptoBulkAll elems + uptoBulkAll spare + 1
  | .agg parts => uptoBulkAll parts + 1
  | .iface _ d => uptoBulk d + 1
  | .map entries => uptoBulkEntries entries + 1
  | .held _ => 1
def uptoBulkAll {H : Type} : List (DataW H) → Nat
  | [] => 0
  | d :: r => uptoBulk d + uptoBulkAll r
def uptoBulkEntries {H : Type} : List (Lit × DataW H) → Nat
  | [] => 0
  | x :: r => uptoBulkEntry x + uptoBulkEntries r
def uptoBulkEntry {H : Type} : Lit × DataW H → Nat
  | (.string bytes, d) => bytes.length + uptoBulk d + 1
  | (_, d) => uptoBulk d + 1
 end
def uptoSmall : (H : Type) → List (DataW H) → Bool := fun _ ds => decide (uptoBulkAll ds ≤ 1048576)
def OpenSpec.upto (s : _root_.Go.ChangeSpec) : _root_.Go.OpenSpec := { _root_.Go.OpenSpec.ofChange s with cond := some uptoSmall }

/-- 'stackyardtop.WholeEmpty', WHERE WHAT IT READS IS OF BULK AT MOST 1048576: true; the input reads as it did. -/
def wholeEmptyUptoRow : OpenClaim := { program := "ytpfjommkjkbonabgreat", sum := "eb202a84af1e167610926d24ee704a71acfd28fb6d8568014772de3b187afa5b", func := "stackyard/stackyardtop.WholeEmpty", spec := "wholeEmpty", unfollowed := true, recurses := true, plainKeys := false, apart := false, narrowed := true }
def WholeEmptyUptoSaid : Prop := wholeEmptyUptoRow.holds Tryz.pinned (OpenSpec.upto wholeEmptySpec)

/-- 'stackyardtop.WholeOnce', WHERE WHAT IT READS IS OF BULK AT MOST 1048576: true; the input reads as it did. -/
def wholeOnceUptoRow : OpenClaim := { program := "ytpfjommkjkbonabgreat", sum := "eb202a84af1e167610926d24ee704a71acfd28fb6d8568014772de3b187afa5b", func := "stackyard/stackyardtop.WholeOnce", spec := "wholeOnce", unfollowed := true, recurses := true, plainKeys := false, apart := false, narrowed := true }
def WholeOnceUptoSaid : Prop := wholeOnceUptoRow.holds Tryz.pinned (OpenSpec.upto wholeOnceSpec)

/-- 'stackyardtop.WholeStamps', WHERE WHAT IT READS IS OF BULK AT MOST 1048576: true; the input reads as it did. -/
def wholeStampsUptoRow : OpenClaim := { program := "ytpfjommkjkbonabgreat", sum := "eb202a84af1e167610926d24ee704a71acfd28fb6d8568014772de3b187afa5b", func := "stackyard/stackyardtop.WholeStamps", spec := "wholeStamps", unfollowed := true, recurses := true, plainKeys := false, apart := false, narrowed := true }
def WholeStampsUptoSaid : Prop := wholeStampsUptoRow.holds Tryz.pinned (OpenSpec.upto wholeStampsSpec)

/-- 'stackyardtop.WholeClean', WHERE WHAT IT READS IS OF BULK AT MOST 1048576: true; the input reads as it did. -/
def wholeCleanUptoRow : OpenClaim := { program := "ytpfjommkjkbonabgreat", sum := "eb202a84af1e167610926d24ee704a71acfd28fb6d8568014772de3b187afa5b", func := "stackyard/stackyardtop.WholeClean", spec := "wholeClean", unfollowed := true, recurses := true, plainKeys := false, apart := false, narrowed := true }
def WholeCleanUptoSaid : Prop := wholeCleanUptoRow.holds Tryz.pinned (OpenSpec.upto wholeCleanSpec)

/-- 'stackyardtop.WholeWindow', WHERE WHAT IT READS IS OF BULK AT MOST 1048576: true; the input reads as it did. -/
def wholeWindowUptoRow : OpenClaim := { program := "ytpfjommkjkbonabgreat", sum := "eb202a84af1e167610926d24ee704a71acfd28fb6d8568014772de3b187afa5b", func := "stackyard/stackyardtop.WholeWindow", spec := "wholeWindow", unfollowed := true, recurses := true, plainKeys := false, apart := false, narrowed := true }
def WholeWindowUptoSaid : Prop := wholeWindowUptoRow.holds Tryz.pinned (OpenSpec.upto wholeWindowSpec)

/-- 'stackyardtop.WholeRoom', WHERE WHAT IT READS IS OF BULK AT MOST 1048576: true; the input reads as it did. -/
def wholeRoomUptoRow : OpenClaim := { program := "ytpfjommkjkbonabgreat", sum := "eb202a84af1e167610926d24ee704a71acfd28fb6d8568014772de3b187afa5b", func := "stackyard/stackyardtop.WholeRoom", spec := "wholeRoom", unfollowed := true, recurses := true, plainKeys := false, apart := false, narrowed := true }
def WholeRoomUptoSaid : Prop := wholeRoomUptoRow.holds Tryz.pinned (OpenSpec.upto wholeRoomSpec)

/-- 'stackyardtop.WholeGens', WHERE WHAT IT READS IS OF BULK AT MOST 1048576: true; the input reads as it did. -/
def wholeGensUptoRow : OpenClaim := { program := "ytpfjommkjkbonabgreat", sum := "eb202a84af1e167610926d24ee704a71acfd28fb6d8568014772de3b187afa5b", func := "stackyard/stackyardtop.WholeGens", spec := "wholeGens", unfollowed := true, recurses := true, plainKeys := false, apart := false, narrowed := true }
def WholeGensUptoSaid : Prop := wholeGensUptoRow.holds Tryz.pinned (OpenSpec.upto wholeGensSpec)

/-- 'stackyardtop.WholeAlone', WHERE WHAT IT READS IS OF BULK AT MOST 1048576: true; the input reads as it did. -/
def wholeAloneUptoRow : OpenClaim := { program := "ytpfjommkjkbonabgreat", sum := "eb202a84af1e167610926d24ee704a71acfd28fb6d8568014772de3b187afa5b", func := "stackyard/stackyardtop.WholeAlone", spec := "wholeAlone", unfollowed := true, recurses := true, plainKeys := false, apart := false, narrowed := true }
def WholeAloneUptoSaid : Prop := wholeAloneUptoRow.holds Tryz.pinned (OpenSpec.upto wholeAloneSpec)

/-- 'stackyardtop.WholeDrain', WHERE WHAT IT READS IS OF BULK AT MOST 1048576: true; the input reads as it did. -/
def wholeDrainUptoRow : OpenClaim := { program := "ytpfjommkjkbonabgreat", sum := "eb202a84af1e167610926d24ee704a71acfd28fb6d8568014772de3b187afa5b", func := "stackyard/stackyardtop.WholeDrain", spec := "wholeDrain", unfollowed := true, recurses := true, plainKeys := false, apart := false, narrowed := true }
def WholeDrainUptoSaid : Prop := wholeDrainUptoRow.holds Tryz.pinned (OpenSpec.upto wholeDrainSpec)

/-- 'stackyardtop.WholeMirror', WHERE WHAT IT READS IS OF BULK AT MOST 1048576: true; the input reads as it did. -/
def wholeMirrorUptoRow : OpenClaim := { program := "ytpfjommkjkbonabgreat", sum := "eb202a84af1e167610926d24ee704a71acfd28fb6d8568014772de3b187afa5b", func := "stackyard/stackyardtop.WholeMirror", spec := "wholeMirror", unfollowed := true, recurses := true, plainKeys := false, apart := false, narrowed := true }
def WholeMirrorUptoSaid : Prop := wholeMirrorUptoRow.holds Tryz.pinned (OpenSpec.upto wholeMirrorSpec)

/-- 'stackyardtop.WholeTimes', WHERE WHAT IT READS IS OF BULK AT MOST 1048576: true; the input reads as it did. -/
def wholeTimesUptoRow : OpenClaim := { program := "ytpfjommkjkbonabgreat", sum := "eb202a84af1e167610926d24ee704a71acfd28fb6d8568014772de3b187afa5b", func := "stackyard/stackyardtop.WholeTimes", spec := "wholeTimes", unfollowed := true, recurses := true, plainKeys := false, apart := false, narrowed := true }
def WholeTimesUptoSaid : Prop := wholeTimesUptoRow.holds Tryz.pinned (OpenSpec.upto wholeTimesSpec)

/-- 'stackyardtop.WholeValues', WHERE WHAT IT READS IS OF BULK AT MOST 1048576: true; the input reads as it did. -/
def wholeValuesUptoRow : OpenClaim := { program := "ytpfjommkjkbonabgreat", sum := "eb202a84af1e167610926d24ee704a71acfd28fb6d8568014772de3b187afa5b", func := "stackyard/stackyardtop.WholeValues", spec := "wholeValues", unfollowed := true, recurses := true, plainKeys := false, apart := false, narrowed := true }
def WholeValuesUptoSaid : Prop := wholeValuesUptoRow.holds Tryz.pinned (OpenSpec.upto wholeValuesSpec)

end Rows
end Go.Proofs.YtpfjommkjkbonabGreat
