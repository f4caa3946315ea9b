/-
  No cell of these rows narrows 'for every input' (looked for: loops, veiled, ifaces, maps, wideKeys, modest, calm, conditions, laid).
  DERIVED. THE GIVEN ROWS OF THIS SEAT. 12 by the template 'for every input the law returns true; each argument reads behind the call as it read before'; 0 by the template 'total and deterministic' (their statements: YtoogdfjlodchhaaTotals.lean).
  GIVEN WITH THE SEED: the statements are not yours to turn. If you find one false, say at which input.
  Laid BY PROGRAM, IN A SANDBOX (cutbox-rows.mjs): the forced cells as the released guide's own fill.sh prints them over the translation 2dcfd2465c997e12… (all of the seat's roots in one cut). By AI agents, Wed Nov 11 2026. No macro, syntax, notation, axiom, sorry.
-/
import Derived.Test.YtoogdfjlodchhaaChecked
import GoSem.Claim
import GoSem.ClaimJoined
import GoSem.ClaimMapViews
import Derived.JoinedTies
import Derived.KernelRfl
namespace Go.Proofs.Ytoogdfjlodchhaa
/- THE CELL 'sum', in the pinned program and in every row, IS THE sha256 OF THE DUMP (.gsa) THAT YtoogdfjlodchhaaProg.lean LOADS. Nothing in Lean hashes anything: it is a label: what it is worth is what the hold of that sum in a sandbox is worth. -/
noncomputable def Try.pinned : Pinned := { name := "ytoogdfjlodchhaa", sum := "2dcfd2465c997e122493feb25a93f3cb9f1796464351a70d57e325d9694a305c", checked := Try.checked }
namespace Rows
def none {H : Type} : Left H := { results := [], args := [] }

/-- 'stackyardlaw10.PutSteps': WHATEVER THE INPUT: true; the input reads as it did. -/
def putStepsSpec : ChangeSpec := { name := "putSteps", fn := fun _ => fun
  | [d1, d2, d3, d4, d5, d6, d7, d8, d9, d10] => { results := [.lit (.bool true)], args := [d1, d2, d3, d4, d5, d6, d7, d8, d9, d10] }
  | _ => none }
def putStepsRow : OpenClaim := { program := "ytoogdfjlodchhaa", sum := "2dcfd2465c997e122493feb25a93f3cb9f1796464351a70d57e325d9694a305c", func := "stackyard/stackyardlaw10.PutSteps", spec := "putSteps", apart := false }
def PutStepsSaid : Prop := putStepsRow.holds Try.pinned (OpenSpec.ofChange putStepsSpec)

/-- ITS FALSE NEIGHBOUR: 'it returns false'. Refute it at one input. -/
def putStepsWrong : ChangeSpec := { name := "putSteps", fn := fun _ => fun
  | [d1, d2, d3, d4, d5, d6, d7, d8, d9, d10] => { results := [.lit (.bool false)], args := [d1, d2, d3, d4, d5, d6, d7, d8, d9, d10] }
  | _ => none }
def PutStepsWrongFalsely : Prop := putStepsRow.holds Try.pinned (OpenSpec.ofChange putStepsWrong)

/-- 'stackyardlaw10.PutAlone': WHATEVER THE INPUT: true; the input reads as it did. -/
def putAloneSpec : ChangeSpec := { name := "putAlone", fn := fun _ => fun
  | [d1, d2, d3, d4, d5, d6] => { results := [.lit (.bool true)], args := [d1, d2, d3, d4, d5, d6] }
  | _ => none }
def putAloneRow : OpenClaim := { program := "ytoogdfjlodchhaa", sum := "2dcfd2465c997e122493feb25a93f3cb9f1796464351a70d57e325d9694a305c", func := "stackyard/stackyardlaw10.PutAlone", spec := "putAlone", apart := false }
def PutAloneSaid : Prop := putAloneRow.holds Try.pinned (OpenSpec.ofChange putAloneSpec)

/-- ITS FALSE NEIGHBOUR: 'it returns false'. Refute it at one input. -/
def putAloneWrong : ChangeSpec := { name := "putAlone", fn := fun _ => fun
  | [d1, d2, d3, d4, d5, d6] => { results := [.lit (.bool false)], args := [d1, d2, d3, d4, d5, d6] }
  | _ => none }
def PutAloneWrongFalsely : Prop := putAloneRow.holds Try.pinned (OpenSpec.ofChange putAloneWrong)

/-- 'stackyardlaw10.PutFull': WHATEVER THE INPUT: true; the input reads as it did. -/
def putFullSpec : ChangeSpec := { name := "putFull", fn := fun _ => fun
  | [d1, d2, d3, d4, d5, d6] => { results := [.lit (.bool true)], args := [d1, d2, d3, d4, d5, d6] }
  | _ => none }
def putFullRow : OpenClaim := { program := "ytoogdfjlodchhaa", sum := "2dcfd2465c997e122493feb25a93f3cb9f1796464351a70d57e325d9694a305c", func := "stackyard/stackyardlaw10.PutFull", spec := "putFull", apart := false }
def PutFullSaid : Prop := putFullRow.holds Try.pinned (OpenSpec.ofChange putFullSpec)

/-- ITS FALSE NEIGHBOUR: 'it returns false'. Refute it at one input. -/
def putFullWrong : ChangeSpec := { name := "putFull", fn := fun _ => fun
  | [d1, d2, d3, d4, d5, d6] => { results := [.lit (.bool false)], args := [d1, d2, d3, d4, d5, d6] }
  | _ => none }
def PutFullWrongFalsely : Prop := putFullRow.holds Try.pinned (OpenSpec.ofChange putFullWrong)

/-- 'stackyardlaw10.PutMost': WHATEVER THE INPUT: true; the input reads as it did. -/
def putMostSpec : ChangeSpec := { name := "putMost", fn := fun _ => fun
  | [d1, d2, d3, d4, d5, d6, d7] => { results := [.lit (.bool true)], args := [d1, d2, d3, d4, d5, d6, d7] }
  | _ => none }
def putMostRow : OpenClaim := { program := "ytoogdfjlodchhaa", sum := "2dcfd2465c997e122493feb25a93f3cb9f1796464351a70d57e325d9694a305c", func := "stackyard/stackyardlaw10.PutMost", spec := "putMost", apart := false }
def PutMostSaid : Prop := putMostRow.holds Try.pinned (OpenSpec.ofChange putMostSpec)

/-- ITS FALSE NEIGHBOUR: 'it returns false'. Refute it at one input. -/
def putMostWrong : ChangeSpec := { name := "putMost", fn := fun _ => fun
  | [d1, d2, d3, d4, d5, d6, d7] => { results := [.lit (.bool false)], args := [d1, d2, d3, d4, d5, d6, d7] }
  | _ => none }
def PutMostWrongFalsely : Prop := putMostRow.holds Try.pinned (OpenSpec.ofChange putMostWrong)

/-- 'stackyardlaw10.PutMany': WHATEVER THE INPUT: true; the input reads as it did. -/
def putManySpec : ChangeSpec := { name := "putMany", fn := fun _ => fun
  | [d1, d2, d3, d4] => { results := [.lit (.bool true)], args := [d1, d2, d3, d4] }
  | _ => none }
def putManyRow : OpenClaim := { program := "ytoogdfjlodchhaa", sum := "2dcfd2465c997e122493feb25a93f3cb9f1796464351a70d57e325d9694a305c", func := "stackyard/stackyardlaw10.PutMany", spec := "putMany", apart := false }
def PutManySaid : Prop := putManyRow.holds Try.pinned (OpenSpec.ofChange putManySpec)

/-- ITS FALSE NEIGHBOUR: 'it returns false'. Refute it at one input. -/
def putManyWrong : ChangeSpec := { name := "putMany", fn := fun _ => fun
  | [d1, d2, d3, d4] => { results := [.lit (.bool false)], args := [d1, d2, d3, d4] }
  | _ => none }
def PutManyWrongFalsely : Prop := putManyRow.holds Try.pinned (OpenSpec.ofChange putManyWrong)

/-- 'stackyardlaw10.PutAgain': WHATEVER THE INPUT: true; the input reads as it did. -/
def putAgainSpec : ChangeSpec := { name := "putAgain", fn := fun _ => fun
  | [d1, d2, d3] => { results := [.lit (.bool true)], args := [d1, d2, d3] }
  | _ => none }
def putAgainRow : OpenClaim := { program := "ytoogdfjlodchhaa", sum := "2dcfd2465c997e122493feb25a93f3cb9f1796464351a70d57e325d9694a305c", func := "stackyard/stackyardlaw10.PutAgain", spec := "putAgain", apart := false }
def PutAgainSaid : Prop := putAgainRow.holds Try.pinned (OpenSpec.ofChange putAgainSpec)

/-- ITS FALSE NEIGHBOUR: 'it returns false'. Refute it at one input. -/
def putAgainWrong : ChangeSpec := { name := "putAgain", fn := fun _ => fun
  | [d1, d2, d3] => { results := [.lit (.bool false)], args := [d1, d2, d3] }
  | _ => none }
def PutAgainWrongFalsely : Prop := putAgainRow.holds Try.pinned (OpenSpec.ofChange putAgainWrong)

/-- 'stackyardlaw11.GetAlone': WHATEVER THE INPUT: true; the input reads as it did. -/
def getAloneSpec : ChangeSpec := { name := "getAlone", fn := fun _ => fun
  | [d1, d2, d3, d4, d5, d6] => { results := [.lit (.bool true)], args := [d1, d2, d3, d4, d5, d6] }
  | _ => none }
def getAloneRow : OpenClaim := { program := "ytoogdfjlodchhaa", sum := "2dcfd2465c997e122493feb25a93f3cb9f1796464351a70d57e325d9694a305c", func := "stackyard/stackyardlaw11.GetAlone", spec := "getAlone", unfollowed := true, recurses := true, apart := false }
def GetAloneSaid : Prop := getAloneRow.holds Try.pinned (OpenSpec.ofChange getAloneSpec)

/-- ITS FALSE NEIGHBOUR: 'it returns false'. Refute it at one input. -/
def getAloneWrong : ChangeSpec := { name := "getAlone", fn := fun _ => fun
  | [d1, d2, d3, d4, d5, d6] => { results := [.lit (.bool false)], args := [d1, d2, d3, d4, d5, d6] }
  | _ => none }
def GetAloneWrongFalsely : Prop := getAloneRow.holds Try.pinned (OpenSpec.ofChange getAloneWrong)

/-- 'stackyardlaw11.GetSteps': WHATEVER THE INPUT: true; the input reads as it did. -/
def getStepsSpec : ChangeSpec := { name := "getSteps", fn := fun _ => fun
  | [d1, d2, d3, d4, d5, d6, d7] => { results := [.lit (.bool true)], args := [d1, d2, d3, d4, d5, d6, d7] }
  | _ => none }
def getStepsRow : OpenClaim := { program := "ytoogdfjlodchhaa", sum := "2dcfd2465c997e122493feb25a93f3cb9f1796464351a70d57e325d9694a305c", func := "stackyard/stackyardlaw11.GetSteps", spec := "getSteps", unfollowed := true, recurses := true, apart := false }
def GetStepsSaid : Prop := getStepsRow.holds Try.pinned (OpenSpec.ofChange getStepsSpec)

/-- ITS FALSE NEIGHBOUR: 'it returns false'. Refute it at one input. -/
def getStepsWrong : ChangeSpec := { name := "getSteps", fn := fun _ => fun
  | [d1, d2, d3, d4, d5, d6, d7] => { results := [.lit (.bool false)], args := [d1, d2, d3, d4, d5, d6, d7] }
  | _ => none }
def GetStepsWrongFalsely : Prop := getStepsRow.holds Try.pinned (OpenSpec.ofChange getStepsWrong)

/-- 'stackyardlaw11.GetRow': WHATEVER THE INPUT: true; the input reads as it did. -/
def getRowSpec : ChangeSpec := { name := "getRow", fn := fun _ => fun
  | [d1, d2, d3, d4, d5] => { results := [.lit (.bool true)], args := [d1, d2, d3, d4, d5] }
  | _ => none }
def getRowRow : OpenClaim := { program := "ytoogdfjlodchhaa", sum := "2dcfd2465c997e122493feb25a93f3cb9f1796464351a70d57e325d9694a305c", func := "stackyard/stackyardlaw11.GetRow", spec := "getRow", unfollowed := true, recurses := true, apart := false }
def GetRowSaid : Prop := getRowRow.holds Try.pinned (OpenSpec.ofChange getRowSpec)

/-- ITS FALSE NEIGHBOUR: 'it returns false'. Refute it at one input. -/
def getRowWrong : ChangeSpec := { name := "getRow", fn := fun _ => fun
  | [d1, d2, d3, d4, d5] => { results := [.lit (.bool false)], args := [d1, d2, d3, d4, d5] }
  | _ => none }
def GetRowWrongFalsely : Prop := getRowRow.holds Try.pinned (OpenSpec.ofChange getRowWrong)

/-- 'stackyardlaw11.GetRaces': WHATEVER THE INPUT: true; the input reads as it did. -/
def getRacesSpec : ChangeSpec := { name := "getRaces", fn := fun _ => fun
  | [d1, d2, d3, d4, d5] => { results := [.lit (.bool true)], args := [d1, d2, d3, d4, d5] }
  | _ => none }
def getRacesRow : OpenClaim := { program := "ytoogdfjlodchhaa", sum := "2dcfd2465c997e122493feb25a93f3cb9f1796464351a70d57e325d9694a305c", func := "stackyard/stackyardlaw11.GetRaces", spec := "getRaces", unfollowed := true, recurses := true, apart := false }
def GetRacesSaid : Prop := getRacesRow.holds Try.pinned (OpenSpec.ofChange getRacesSpec)

/-- ITS FALSE NEIGHBOUR: 'it returns false'. Refute it at one input. -/
def getRacesWrong : ChangeSpec := { name := "getRaces", fn := fun _ => fun
  | [d1, d2, d3, d4, d5] => { results := [.lit (.bool false)], args := [d1, d2, d3, d4, d5] }
  | _ => none }
def GetRacesWrongFalsely : Prop := getRacesRow.holds Try.pinned (OpenSpec.ofChange getRacesWrong)

/-- 'stackyardlaw11.GetStarts': WHATEVER THE INPUT: true; the input reads as it did. -/
def getStartsSpec : ChangeSpec := { name := "getStarts", fn := fun _ => fun
  | [d1, d2, d3, d4, d5, d6] => { results := [.lit (.bool true)], args := [d1, d2, d3, d4, d5, d6] }
  | _ => none }
def getStartsRow : OpenClaim := { program := "ytoogdfjlodchhaa", sum := "2dcfd2465c997e122493feb25a93f3cb9f1796464351a70d57e325d9694a305c", func := "stackyard/stackyardlaw11.GetStarts", spec := "getStarts", unfollowed := true, recurses := true, apart := false }
def GetStartsSaid : Prop := getStartsRow.holds Try.pinned (OpenSpec.ofChange getStartsSpec)

/-- ITS FALSE NEIGHBOUR: 'it returns false'. Refute it at one input. -/
def getStartsWrong : ChangeSpec := { name := "getStarts", fn := fun _ => fun
  | [d1, d2, d3, d4, d5, d6] => { results := [.lit (.bool false)], args := [d1, d2, d3, d4, d5, d6] }
  | _ => none }
def GetStartsWrongFalsely : Prop := getStartsRow.holds Try.pinned (OpenSpec.ofChange getStartsWrong)

/-- 'stackyardlaw11.GetTries': WHATEVER THE INPUT: true; the input reads as it did. -/
def getTriesSpec : ChangeSpec := { name := "getTries", fn := fun _ => fun
  | [d1, d2, d3, d4, d5, d6] => { results := [.lit (.bool true)], args := [d1, d2, d3, d4, d5, d6] }
  | _ => none }
def getTriesRow : OpenClaim := { program := "ytoogdfjlodchhaa", sum := "2dcfd2465c997e122493feb25a93f3cb9f1796464351a70d57e325d9694a305c", func := "stackyard/stackyardlaw11.GetTries", spec := "getTries", unfollowed := true, recurses := true, apart := false }
def GetTriesSaid : Prop := getTriesRow.holds Try.pinned (OpenSpec.ofChange getTriesSpec)

/-- ITS FALSE NEIGHBOUR: 'it returns false'. Refute it at one input. -/
def getTriesWrong : ChangeSpec := { name := "getTries", fn := fun _ => fun
  | [d1, d2, d3, d4, d5, d6] => { results := [.lit (.bool false)], args := [d1, d2, d3, d4, d5, d6] }
  | _ => none }
def GetTriesWrongFalsely : Prop := getTriesRow.holds Try.pinned (OpenSpec.ofChange getTriesWrong)

/- THE SECOND FORM. 'bulk': how many values and letters a reading holds, each counted each time it is reached (what is shared counts as often as it is met; a slice's spare places count too). A statement '..UptoSaid' is the law's where the arguments, and the package variables that the reading takes, are together of bulk at most 1048576: NARROWER than '..Said'. Prove '..Said' where nothing that the law and all that it calls make is longer than what came in: it says more and counts as full. Else prove '..UptoSaid'. A law counts once. -/
mutual
def uptoBulk {H : Type} : DataW H → Nat
  | .lit (.string bytes) => bytes.length + 1
  | .lit _ => 1
  | .nil => 1
  | .ptr d => uptoBulk d + 1
  | .slice elems spare => uptoBulkAll elems + uptoBulkAll spare + 1
  | .agg parts => uptoBulkAll parts + 1
  | .iface _ d => uptoBulk d + 1
  | .map entries => uptoBulkEntries entries + 1
  | .held _ => 1
def uptoBulkAll {H : Type} : List (DataW H) → Nat
  | [] => 0
  | d :: r => uptoBulk d + uptoBulkAll r
def uptoBulkEntries {H : Type} : List (Lit × DataW H) → Nat
  | [] => 0
  | x :: r => uptoBulkEntry x + uptoBulkEntries r
def uptoBulkEntry {H : Type} : Lit × DataW H → Nat
  | (.string bytes, d) => bytes.length + uptoBulk d + 1
  | (_, d) => uptoBulk d + 1
 end
def uptoSmall : (H : Type) → List (DataW H) → Bool := fun _ ds => decide (uptoBulkAll ds ≤ 1048576)
def OpenSpec.upto (s : _root_.Go.ChangeSpec) : _root_.Go.OpenSpec := { _root_.Go.OpenSpec.ofChange s with cond := some uptoSmall }

/-- 'stackyardlaw10.PutSteps', WHERE WHAT IT READS IS OF BULK AT MOST 1048576: true; the input reads as it did. -/
def putStepsUptoRow : OpenClaim := { program := "ytoogdfjlodchhaa", sum := "2dcfd2465c997e122493feb25a93f3cb9f1796464351a70d57e325d9694a305c", func := "stackyard/stackyardlaw10.PutSteps", spec := "putSteps", apart := false, narrowed := true }
def PutStepsUptoSaid : Prop := putStepsUptoRow.holds Try.pinned (OpenSpec.upto putStepsSpec)

/-- 'stackyardlaw10.PutAlone', WHERE WHAT IT READS IS OF BULK AT MOST 1048576: true; the input reads as it did. -/
def putAloneUptoRow : OpenClaim := { program := "ytoogdfjlodchhaa", sum := "2dcfd2465c997e122493feb25a93f3cb9f1796464351a70d57e325d9694a305c", func := "stackyard/stackyardlaw10.PutAlone", spec := "putAlone", apart := false, narrowed := true }
def PutAloneUptoSaid : Prop := putAloneUptoRow.holds Try.pinned (OpenSpec.upto putAloneSpec)

/-- 'stackyardlaw10.PutFull', WHERE WHAT IT READS IS OF BULK AT MOST 1048576: true; the input reads as it did. -/
def putFullUptoRow : OpenClaim := { program := "ytoogdfjlodchhaa", sum := "2dcfd2465c997e122493feb25a93f3cb9f1796464351a70d57e325d9694a305c", func := "stackyard/stackyardlaw10.PutFull", spec := "putFull", apart := false, narrowed := true }
def PutFullUptoSaid : Prop := putFullUptoRow.holds Try.pinned (OpenSpec.upto putFullSpec)

/-- 'stackyardlaw10.PutMost', WHERE WHAT IT READS IS OF BULK AT MOST 1048576: true; the input reads as it did. -/
def putMostUptoRow : OpenClaim := { program := "ytoogdfjlodchhaa", sum := "2dcfd2465c997e122493feb25a93f3cb9f1796464351a70d57e325d9694a305c", func := "stackyard/stackyardlaw10.PutMost", spec := "putMost", apart := false, narrowed := true }
def PutMostUptoSaid : Prop := putMostUptoRow.holds Try.pinned (OpenSpec.upto putMostSpec)

/-- 'stackyardlaw10.PutMany', WHERE WHAT IT READS IS OF BULK AT MOST 1048576: true; the input reads as it did. -/
def putManyUptoRow : OpenClaim := { program := "ytoogdfjlodchhaa", sum := "2dcfd2465c997e122493feb25a93f3cb9f1796464351a70d57e325d9694a305c", func := "stackyard/stackyardlaw10.PutMany", spec := "putMany", apart := false, narrowed := true }
def PutManyUptoSaid : Prop := putManyUptoRow.holds Try.pinned (OpenSpec.upto putManySpec)

/-- 'stackyardlaw10.PutAgain', WHERE WHAT IT READS IS OF BULK AT MOST 1048576: true; the input reads as it did. -/
def putAgainUptoRow : OpenClaim := { program := "ytoogdfjlodchhaa", sum := "2dcfd2465c997e122493feb25a93f3cb9f1796464351a70d57e325d9694a305c", func := "stackyard/stackyardlaw10.PutAgain", spec := "putAgain", apart := false, narrowed := true }
def PutAgainUptoSaid : Prop := putAgainUptoRow.holds Try.pinned (OpenSpec.upto putAgainSpec)

/-- 'stackyardlaw11.GetAlone', WHERE WHAT IT READS IS OF BULK AT MOST 1048576: true; the input reads as it did. -/
def getAloneUptoRow : OpenClaim := { program := "ytoogdfjlodchhaa", sum := "2dcfd2465c997e122493feb25a93f3cb9f1796464351a70d57e325d9694a305c", func := "stackyard/stackyardlaw11.GetAlone", spec := "getAlone", unfollowed := true, recurses := true, apart := false, narrowed := true }
def GetAloneUptoSaid : Prop := getAloneUptoRow.holds Try.pinned (OpenSpec.upto getAloneSpec)

/-- 'stackyardlaw11.GetSteps', WHERE WHAT IT READS IS OF BULK AT MOST 1048576: true; the input reads as it did. -/
def getStepsUptoRow : OpenClaim := { program := "ytoogdfjlodchhaa", sum := "2dcfd2465c997e122493feb25a93f3cb9f1796464351a70d57e325d9694a305c", func := "stackyard/stackyardlaw11.GetSteps", spec := "getSteps", unfollowed := true, recurses := true, apart := false, narrowed := true }
def GetStepsUptoSaid : Prop := getStepsUptoRow.holds Try.pinned (OpenSpec.upto getStepsSpec)

/-- 'stackyardlaw11.GetRow', WHERE WHAT IT READS IS OF BULK AT MOST 1048576: true; the input reads as it did. -/
def getRowUptoRow : OpenClaim := { program := "ytoogdfjlodchhaa", sum := "2dcfd2465c997e122493feb25a93f3cb9f1796464351a70d57e325d9694a305c", func := "stackyard/stackyardlaw11.GetRow", spec := "getRow", unfollowed := true, recurses := true, apart := false, narrowed := true }
def GetRowUptoSaid : Prop := getRowUptoRow.holds Try.pinned (OpenSpec.upto getRowSpec)

/-- 'stackyardlaw11.GetRaces', WHERE WHAT IT READS IS OF BULK AT MOST 1048576: true; the input reads as it did. -/
def getRacesUptoRow : OpenClaim := { program := "ytoogdfjlodchhaa", sum := "2dcfd2465c997e122493feb25a93f3cb9f1796464351a70d57e325d9694a305c", func := "stackyard/stackyardlaw11.GetRaces", spec := "getRaces", unfollowed := true, recurses := true, apart := false, narrowed := true }
def GetRacesUptoSaid : Prop := getRacesUptoRow.holds Try.pinned (OpenSpec.upto getRacesSpec)

/-- 'stackyardlaw11.GetStarts', WHERE WHAT IT READS IS OF BULK AT MOST 1048576: true; the input reads as it did. -/
def getStartsUptoRow : OpenClaim := { program := "ytoogdfjlodchhaa", sum := "2dcfd2465c997e122493feb25a93f3cb9f1796464351a70d57e325d9694a305c", func := "stackyard/stackyardlaw11.GetStarts", spec := "getStarts", unfollowed := true, recurses := true, apart := false, narrowed := true }
def GetStartsUptoSaid : Prop := getStartsUptoRow.holds Try.pinned (OpenSpec.upto getStartsSpec)

/-- 'stackyardlaw11.GetTries', WHERE WHAT IT READS IS OF BULK AT MOST 1048576: true; the input reads as it did. -/
def getTriesUptoRow : OpenClaim := { program := "ytoogdfjlodchhaa", sum := "2dcfd2465c997e122493feb25a93f3cb9f1796464351a70d57e325d9694a305c", func := "stackyard/stackyardlaw11.GetTries", spec := "getTries", unfollowed := true, recurses := true, apart := false, narrowed := true }
def GetTriesUptoSaid : Prop := getTriesUptoRow.holds Try.pinned (OpenSpec.upto getTriesSpec)

end Rows
end Go.Proofs.Ytoogdfjlodchhaa
