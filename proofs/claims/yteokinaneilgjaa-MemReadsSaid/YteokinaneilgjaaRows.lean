/-
  No cell of these rows narrows 'for every input' (looked for: loops, veiled, ifaces, maps, wideKeys, modest, calm, conditions, laid).
  DERIVED. THE GIVEN ROWS OF THIS SEAT. 13 by the template 'for every input the law returns true; each argument reads behind the call as it read before'; 0 by the template 'total and deterministic' (their statements: YteokinaneilgjaaTotals.lean).
  GIVEN WITH THE SEED: the statements are not yours to turn. If you find one false, say at which input.
  Laid BY PROGRAM, IN A SANDBOX (cutbox-rows.mjs): the forced cells as the released guide's own fill.sh prints them over the translation b48e7bef1d66e333… (all of the seat's roots in one cut). By AI agents, Wed Nov 11 2026. No macro, syntax, notation, axiom, sorry.
-/
import Derived.Test.YteokinaneilgjaaChecked
import GoSem.Claim
import GoSem.ClaimJoined
import GoSem.ClaimMapViews
import Derived.JoinedTies
import Derived.KernelRfl
namespace Go.Proofs.Yteokinaneilgjaa
/- THE CELL 'sum', in the pinned program and in every row, IS THE sha256 OF THE DUMP (.gsa) THAT YteokinaneilgjaaProg.lean LOADS. Nothing in Lean hashes anything: it is a label: what it is worth is what the hold of that sum in a sandbox is worth. -/
noncomputable def Try.pinned : Pinned := { name := "yteokinaneilgjaa", sum := "b48e7bef1d66e333940148ca087f1dc253ec1859b00fff51d8500df96e91a433", checked := Try.checked }
namespace Rows
def none {H : Type} : Left H := { results := [], args := [] }

/-- 'stackyardlaw03.MemActs': WHATEVER THE INPUT: true; the input reads as it did. -/
def memActsSpec : ChangeSpec := { name := "memActs", fn := fun _ => fun
  | [d1, d2] => { results := [.lit (.bool true)], args := [d1, d2] }
  | _ => none }
def memActsRow : OpenClaim := { program := "yteokinaneilgjaa", sum := "b48e7bef1d66e333940148ca087f1dc253ec1859b00fff51d8500df96e91a433", func := "stackyard/stackyardlaw03.MemActs", spec := "memActs", apart := false }
def MemActsSaid : Prop := memActsRow.holds Try.pinned (OpenSpec.ofChange memActsSpec)

/-- ITS FALSE NEIGHBOUR: 'it returns false'. Refute it at one input. -/
def memActsWrong : ChangeSpec := { name := "memActs", fn := fun _ => fun
  | [d1, d2] => { results := [.lit (.bool false)], args := [d1, d2] }
  | _ => none }
def MemActsWrongFalsely : Prop := memActsRow.holds Try.pinned (OpenSpec.ofChange memActsWrong)

/-- 'stackyardlaw03.MemBacks': WHATEVER THE INPUT: true; the input reads as it did. -/
def memBacksSpec : ChangeSpec := { name := "memBacks", fn := fun _ => fun
  | [d1, d2] => { results := [.lit (.bool true)], args := [d1, d2] }
  | _ => none }
def memBacksRow : OpenClaim := { program := "yteokinaneilgjaa", sum := "b48e7bef1d66e333940148ca087f1dc253ec1859b00fff51d8500df96e91a433", func := "stackyard/stackyardlaw03.MemBacks", spec := "memBacks", apart := false }
def MemBacksSaid : Prop := memBacksRow.holds Try.pinned (OpenSpec.ofChange memBacksSpec)

/-- ITS FALSE NEIGHBOUR: 'it returns false'. Refute it at one input. -/
def memBacksWrong : ChangeSpec := { name := "memBacks", fn := fun _ => fun
  | [d1, d2] => { results := [.lit (.bool false)], args := [d1, d2] }
  | _ => none }
def MemBacksWrongFalsely : Prop := memBacksRow.holds Try.pinned (OpenSpec.ofChange memBacksWrong)

/-- 'stackyardlaw03.MemReads': WHATEVER THE INPUT: true; the input reads as it did. -/
def memReadsSpec : ChangeSpec := { name := "memReads", fn := fun _ => fun
  | [d1, d2] => { results := [.lit (.bool true)], args := [d1, d2] }
  | _ => none }
def memReadsRow : OpenClaim := { program := "yteokinaneilgjaa", sum := "b48e7bef1d66e333940148ca087f1dc253ec1859b00fff51d8500df96e91a433", func := "stackyard/stackyardlaw03.MemReads", spec := "memReads", apart := false }
def MemReadsSaid : Prop := memReadsRow.holds Try.pinned (OpenSpec.ofChange memReadsSpec)

/-- ITS FALSE NEIGHBOUR: 'it returns false'. Refute it at one input. -/
def memReadsWrong : ChangeSpec := { name := "memReads", fn := fun _ => fun
  | [d1, d2] => { results := [.lit (.bool false)], args := [d1, d2] }
  | _ => none }
def MemReadsWrongFalsely : Prop := memReadsRow.holds Try.pinned (OpenSpec.ofChange memReadsWrong)

/-- 'stackyardlaw03.MemSums': WHATEVER THE INPUT: true; the input reads as it did. -/
def memSumsSpec : ChangeSpec := { name := "memSums", fn := fun _ => fun
  | [d] => { results := [.lit (.bool true)], args := [d] }
  | _ => none }
def memSumsRow : OpenClaim := { program := "yteokinaneilgjaa", sum := "b48e7bef1d66e333940148ca087f1dc253ec1859b00fff51d8500df96e91a433", func := "stackyard/stackyardlaw03.MemSums", spec := "memSums", apart := false }
def MemSumsSaid : Prop := memSumsRow.holds Try.pinned (OpenSpec.ofChange memSumsSpec)

/-- ITS FALSE NEIGHBOUR: 'it returns false'. Refute it at one input. -/
def memSumsWrong : ChangeSpec := { name := "memSums", fn := fun _ => fun
  | [d] => { results := [.lit (.bool false)], args := [d] }
  | _ => none }
def MemSumsWrongFalsely : Prop := memSumsRow.holds Try.pinned (OpenSpec.ofChange memSumsWrong)

/-- 'stackyardlaw03.MemSizes': WHATEVER THE INPUT: true; the input reads as it did. -/
def memSizesSpec : ChangeSpec := { name := "memSizes", fn := fun _ => fun
  | [d] => { results := [.lit (.bool true)], args := [d] }
  | _ => none }
def memSizesRow : OpenClaim := { program := "yteokinaneilgjaa", sum := "b48e7bef1d66e333940148ca087f1dc253ec1859b00fff51d8500df96e91a433", func := "stackyard/stackyardlaw03.MemSizes", spec := "memSizes", apart := false }
def MemSizesSaid : Prop := memSizesRow.holds Try.pinned (OpenSpec.ofChange memSizesSpec)

/-- ITS FALSE NEIGHBOUR: 'it returns false'. Refute it at one input. -/
def memSizesWrong : ChangeSpec := { name := "memSizes", fn := fun _ => fun
  | [d] => { results := [.lit (.bool false)], args := [d] }
  | _ => none }
def MemSizesWrongFalsely : Prop := memSizesRow.holds Try.pinned (OpenSpec.ofChange memSizesWrong)

/-- 'stackyardlaw03.MemRaces': WHATEVER THE INPUT: true; the input reads as it did. -/
def memRacesSpec : ChangeSpec := { name := "memRaces", fn := fun _ => fun
  | [d1, d2] => { results := [.lit (.bool true)], args := [d1, d2] }
  | _ => none }
def memRacesRow : OpenClaim := { program := "yteokinaneilgjaa", sum := "b48e7bef1d66e333940148ca087f1dc253ec1859b00fff51d8500df96e91a433", func := "stackyard/stackyardlaw03.MemRaces", spec := "memRaces", apart := false }
def MemRacesSaid : Prop := memRacesRow.holds Try.pinned (OpenSpec.ofChange memRacesSpec)

/-- ITS FALSE NEIGHBOUR: 'it returns false'. Refute it at one input. -/
def memRacesWrong : ChangeSpec := { name := "memRaces", fn := fun _ => fun
  | [d1, d2] => { results := [.lit (.bool false)], args := [d1, d2] }
  | _ => none }
def MemRacesWrongFalsely : Prop := memRacesRow.holds Try.pinned (OpenSpec.ofChange memRacesWrong)

/-- 'stackyardlaw03.MemApart': WHATEVER THE INPUT: true; the input reads as it did. -/
def memApartSpec : ChangeSpec := { name := "memApart", fn := fun _ => fun
  | [d1, d2, d3] => { results := [.lit (.bool true)], args := [d1, d2, d3] }
  | _ => none }
def memApartRow : OpenClaim := { program := "yteokinaneilgjaa", sum := "b48e7bef1d66e333940148ca087f1dc253ec1859b00fff51d8500df96e91a433", func := "stackyard/stackyardlaw03.MemApart", spec := "memApart", apart := false }
def MemApartSaid : Prop := memApartRow.holds Try.pinned (OpenSpec.ofChange memApartSpec)

/-- ITS FALSE NEIGHBOUR: 'it returns false'. Refute it at one input. -/
def memApartWrong : ChangeSpec := { name := "memApart", fn := fun _ => fun
  | [d1, d2, d3] => { results := [.lit (.bool false)], args := [d1, d2, d3] }
  | _ => none }
def MemApartWrongFalsely : Prop := memApartRow.holds Try.pinned (OpenSpec.ofChange memApartWrong)

/-- 'stackyardlaw03.MemWraps': WHATEVER THE INPUT: true; the input reads as it did. -/
def memWrapsSpec : ChangeSpec := { name := "memWraps", fn := fun _ => fun
  | [d1, d2] => { results := [.lit (.bool true)], args := [d1, d2] }
  | _ => none }
def memWrapsRow : OpenClaim := { program := "yteokinaneilgjaa", sum := "b48e7bef1d66e333940148ca087f1dc253ec1859b00fff51d8500df96e91a433", func := "stackyard/stackyardlaw03.MemWraps", spec := "memWraps", apart := false }
def MemWrapsSaid : Prop := memWrapsRow.holds Try.pinned (OpenSpec.ofChange memWrapsSpec)

/-- ITS FALSE NEIGHBOUR: 'it returns false'. Refute it at one input. -/
def memWrapsWrong : ChangeSpec := { name := "memWraps", fn := fun _ => fun
  | [d1, d2] => { results := [.lit (.bool false)], args := [d1, d2] }
  | _ => none }
def MemWrapsWrongFalsely : Prop := memWrapsRow.holds Try.pinned (OpenSpec.ofChange memWrapsWrong)

/-- 'stackyardlaw04.LayRights': WHATEVER THE INPUT: true; the input reads as it did. -/
def layRightsSpec : ChangeSpec := { name := "layRights", fn := fun _ => fun
  | [d] => { results := [.lit (.bool true)], args := [d] }
  | _ => none }
def layRightsRow : OpenClaim := { program := "yteokinaneilgjaa", sum := "b48e7bef1d66e333940148ca087f1dc253ec1859b00fff51d8500df96e91a433", func := "stackyard/stackyardlaw04.LayRights", spec := "layRights", apart := false }
def LayRightsSaid : Prop := layRightsRow.holds Try.pinned (OpenSpec.ofChange layRightsSpec)

/-- ITS FALSE NEIGHBOUR: 'it returns false'. Refute it at one input. -/
def layRightsWrong : ChangeSpec := { name := "layRights", fn := fun _ => fun
  | [d] => { results := [.lit (.bool false)], args := [d] }
  | _ => none }
def LayRightsWrongFalsely : Prop := layRightsRow.holds Try.pinned (OpenSpec.ofChange layRightsWrong)

/-- 'stackyardlaw04.LayCells': WHATEVER THE INPUT: true; the input reads as it did. -/
def layCellsSpec : ChangeSpec := { name := "layCells", fn := fun _ => fun
  | [d] => { results := [.lit (.bool true)], args := [d] }
  | _ => none }
def layCellsRow : OpenClaim := { program := "yteokinaneilgjaa", sum := "b48e7bef1d66e333940148ca087f1dc253ec1859b00fff51d8500df96e91a433", func := "stackyard/stackyardlaw04.LayCells", spec := "layCells", apart := false }
def LayCellsSaid : Prop := layCellsRow.holds Try.pinned (OpenSpec.ofChange layCellsSpec)

/-- ITS FALSE NEIGHBOUR: 'it returns false'. Refute it at one input. -/
def layCellsWrong : ChangeSpec := { name := "layCells", fn := fun _ => fun
  | [d] => { results := [.lit (.bool false)], args := [d] }
  | _ => none }
def LayCellsWrongFalsely : Prop := layCellsRow.holds Try.pinned (OpenSpec.ofChange layCellsWrong)

/-- 'stackyardlaw04.LayOwners': WHATEVER THE INPUT: true; the input reads as it did. -/
def layOwnersSpec : ChangeSpec := { name := "layOwners", fn := fun _ => fun
  | [d1, d2] => { results := [.lit (.bool true)], args := [d1, d2] }
  | _ => none }
def layOwnersRow : OpenClaim := { program := "yteokinaneilgjaa", sum := "b48e7bef1d66e333940148ca087f1dc253ec1859b00fff51d8500df96e91a433", func := "stackyard/stackyardlaw04.LayOwners", spec := "layOwners", apart := false }
def LayOwnersSaid : Prop := layOwnersRow.holds Try.pinned (OpenSpec.ofChange layOwnersSpec)

/-- ITS FALSE NEIGHBOUR: 'it returns false'. Refute it at one input. -/
def layOwnersWrong : ChangeSpec := { name := "layOwners", fn := fun _ => fun
  | [d1, d2] => { results := [.lit (.bool false)], args := [d1, d2] }
  | _ => none }
def LayOwnersWrongFalsely : Prop := layOwnersRow.holds Try.pinned (OpenSpec.ofChange layOwnersWrong)

/-- 'stackyardlaw04.LayKinds': WHATEVER THE INPUT: true; the input reads as it did. -/
def layKindsSpec : ChangeSpec := { name := "layKinds", fn := fun _ => fun
  | [d1, d2] => { results := [.lit (.bool true)], args := [d1, d2] }
  | _ => none }
def layKindsRow : OpenClaim := { program := "yteokinaneilgjaa", sum := "b48e7bef1d66e333940148ca087f1dc253ec1859b00fff51d8500df96e91a433", func := "stackyard/stackyardlaw04.LayKinds", spec := "layKinds", apart := false }
def LayKindsSaid : Prop := layKindsRow.holds Try.pinned (OpenSpec.ofChange layKindsSpec)

/-- ITS FALSE NEIGHBOUR: 'it returns false'. Refute it at one input. -/
def layKindsWrong : ChangeSpec := { name := "layKinds", fn := fun _ => fun
  | [d1, d2] => { results := [.lit (.bool false)], args := [d1, d2] }
  | _ => none }
def LayKindsWrongFalsely : Prop := layKindsRow.holds Try.pinned (OpenSpec.ofChange layKindsWrong)

/-- 'stackyardlaw04.LayFits': WHATEVER THE INPUT: true; the input reads as it did. -/
def layFitsSpec : ChangeSpec := { name := "layFits", fn := fun _ => fun
  | [d] => { results := [.lit (.bool true)], args := [d] }
  | _ => none }
def layFitsRow : OpenClaim := { program := "yteokinaneilgjaa", sum := "b48e7bef1d66e333940148ca087f1dc253ec1859b00fff51d8500df96e91a433", func := "stackyard/stackyardlaw04.LayFits", spec := "layFits", apart := false }
def LayFitsSaid : Prop := layFitsRow.holds Try.pinned (OpenSpec.ofChange layFitsSpec)

/-- ITS FALSE NEIGHBOUR: 'it returns false'. Refute it at one input. -/
def layFitsWrong : ChangeSpec := { name := "layFits", fn := fun _ => fun
  | [d] => { results := [.lit (.bool false)], args := [d] }
  | _ => none }
def LayFitsWrongFalsely : Prop := layFitsRow.holds Try.pinned (OpenSpec.ofChange layFitsWrong)

/- THE SECOND FORM. 'bulk': how many values and letters a reading holds, each counted each time it is reached (what is shared counts as often as it is met; a slice's spare places count too). A statement '..UptoSaid' is the law's where the arguments, and the package variables that the reading takes, are together of bulk at most 1048576: NARROWER than '..Said'. Prove '..Said' where nothing that the law and all that it calls make is longer than what came in: it says more and counts as full. Else prove '..UptoSaid'. A law counts once. -/
mutual
def uptoBulk {H : Type} : DataW H → Nat
  | .lit (.string bytes) => bytes.length + 1
  | .lit _ => 1
  | .nil => 1
  | .ptr d => uptoBulk d + 1
  | .slice elems spare => uptoBulkAll elems + uptoBulkAll spare + 1
  | .agg parts => uptoBulkAll parts + 1
  | .iface _ d => uptoBulk d + 1
  | .map entries => uptoBulkEntries entries + 1
  | .held _ => 1
def uptoBulkAll {H : Type} : List (DataW H) → Nat
  | [] => 0
  | d :: r => uptoBulk d + uptoBulkAll r
def uptoBulkEntries {H : Type} : List (Lit × DataW H) → Nat
  | [] => 0
  | x :: r => uptoBulkEntry x + uptoBulkEntries r
def uptoBulkEntry {H : Type} : Lit × DataW H → Nat
  | (.string bytes, d) => bytes.length + uptoBulk d + 1
  | (_, d) => uptoBulk d + 1
 end
def uptoSmall : (H : Type) → List (DataW H) → Bool := fun _ ds => decide (uptoBulkAll ds ≤ 1048576)
def OpenSpec.upto (s : _root_.Go.ChangeSpec) : _root_.Go.OpenSpec := { _root_.Go.OpenSpec.ofChange s with cond := some uptoSmall }

/-- 'stackyardlaw03.MemActs', WHERE WHAT IT READS IS OF BULK AT MOST 1048576: true; the input reads as it did. -/
def memActsUptoRow : OpenClaim := { program := "yteokinaneilgjaa", sum := "b48e7bef1d66e333940148ca087f1dc253ec1859b00fff51d8500df96e91a433", func := "stackyard/stackyardlaw03.MemActs", spec := "memActs", apart := false, narrowed := true }
def MemActsUptoSaid : Prop := memActsUptoRow.holds Try.pinned (OpenSpec.upto memActsSpec)

/-- 'stackyardlaw03.MemBacks', WHERE WHAT IT READS IS OF BULK AT MOST 1048576: true; the input reads as it did. -/
def memBacksUptoRow : OpenClaim := { program := "yteokinaneilgjaa", sum := "b48e7bef1d66e333940148ca087f1dc253ec1859b00fff51d8500df96e91a433", func := "stackyard/stackyardlaw03.MemBacks", spec := "memBacks", apart := false, narrowed := true }
def MemBacksUptoSaid : Prop := memBacksUptoRow.holds Try.pinned (OpenSpec.upto memBacksSpec)

/-- 'stackyardlaw03.MemReads', WHERE WHAT IT READS IS OF BULK AT MOST 1048576: true; the input reads as it did. -/
def memReadsUptoRow : OpenClaim := { program := "yteokinaneilgjaa", sum := "b48e7bef1d66e333940148ca087f1dc253ec1859b00fff51d8500df96e91a433", func := "stackyard/stackyardlaw03.MemReads", spec := "memReads", apart := false, narrowed := true }
def MemReadsUptoSaid : Prop := memReadsUptoRow.holds Try.pinned (OpenSpec.upto memReadsSpec)

/-- 'stackyardlaw03.MemSums', WHERE WHAT IT READS IS OF BULK AT MOST 1048576: true; the input reads as it did. -/
def memSumsUptoRow : OpenClaim := { program := "yteokinaneilgjaa", sum := "b48e7bef1d66e333940148ca087f1dc253ec1859b00fff51d8500df96e91a433", func := "stackyard/stackyardlaw03.MemSums", spec := "memSums", apart := false, narrowed := true }
def MemSumsUptoSaid : Prop := memSumsUptoRow.holds Try.pinned (OpenSpec.upto memSumsSpec)

/-- 'stackyardlaw03.MemSizes', WHERE WHAT IT READS IS OF BULK AT MOST 1048576: true; the input reads as it did. -/
def memSizesUptoRow : OpenClaim := { program := "yteokinaneilgjaa", sum := "b48e7bef1d66e333940148ca087f1dc253ec1859b00fff51d8500df96e91a433", func := "stackyard/stackyardlaw03.MemSizes", spec := "memSizes", apart := false, narrowed := true }
def MemSizesUptoSaid : Prop := memSizesUptoRow.holds Try.pinned (OpenSpec.upto memSizesSpec)

/-- 'stackyardlaw03.MemRaces', WHERE WHAT IT READS IS OF BULK AT MOST 1048576: true; the input reads as it did. -/
def memRacesUptoRow : OpenClaim := { program := "yteokinaneilgjaa", sum := "b48e7bef1d66e333940148ca087f1dc253ec1859b00fff51d8500df96e91a433", func := "stackyard/stackyardlaw03.MemRaces", spec := "memRaces", apart := false, narrowed := true }
def MemRacesUptoSaid : Prop := memRacesUptoRow.holds Try.pinned (OpenSpec.upto memRacesSpec)

/-- 'stackyardlaw03.MemApart', WHERE WHAT IT READS IS OF BULK AT MOST 1048576: true; the input reads as it did. -/
def memApartUptoRow : OpenClaim := { program := "yteokinaneilgjaa", sum := "b48e7bef1d66e333940148ca087f1dc253ec1859b00fff51d8500df96e91a433", func := "stackyard/stackyardlaw03.MemApart", spec := "memApart", apart := false, narrowed := true }
def MemApartUptoSaid : Prop := memApartUptoRow.holds Try.pinned (OpenSpec.upto memApartSpec)

/-- 'stackyardlaw03.MemWraps', WHERE WHAT IT READS IS OF BULK AT MOST 1048576: true; the input reads as it did. -/
def memWrapsUptoRow : OpenClaim := { program := "yteokinaneilgjaa", sum := "b48e7bef1d66e333940148ca087f1dc253ec1859b00fff51d8500df96e91a433", func := "stackyard/stackyardlaw03.MemWraps", spec := "memWraps", apart := false, narrowed := true }
def MemWrapsUptoSaid : Prop := memWrapsUptoRow.holds Try.pinned (OpenSpec.upto memWrapsSpec)

/-- 'stackyardlaw04.LayRights', WHERE WHAT IT READS IS OF BULK AT MOST 1048576: true; the input reads as it did. -/
def layRightsUptoRow : OpenClaim := { program := "yteokinaneilgjaa", sum := "b48e7bef1d66e333940148ca087f1dc253ec1859b00fff51d8500df96e91a433", func := "stackyard/stackyardlaw04.LayRights", spec := "layRights", apart := false, narrowed := true }
def LayRightsUptoSaid : Prop := layRightsUptoRow.holds Try.pinned (OpenSpec.upto layRightsSpec)

/-- 'stackyardlaw04.LayCells', WHERE WHAT IT READS IS OF BULK AT MOST 1048576: true; the input reads as it did. -/
def layCellsUptoRow : OpenClaim := { program := "yteokinaneilgjaa", sum := "b48e7bef1d66e333940148ca087f1dc253ec1859b00fff51d8500df96e91a433", func := "stackyard/stackyardlaw04.LayCells", spec := "layCells", apart := false, narrowed := true }
def LayCellsUptoSaid : Prop := layCellsUptoRow.holds Try.pinned (OpenSpec.upto layCellsSpec)

/-- 'stackyardlaw04.LayOwners', WHERE WHAT IT READS IS OF BULK AT MOST 1048576: true; the input reads as it did. -/
def layOwnersUptoRow : OpenClaim := { program := "yteokinaneilgjaa", sum := "b48e7bef1d66e333940148ca087f1dc253ec1859b00fff51d8500df96e91a433", func := "stackyard/stackyardlaw04.LayOwners", spec := "layOwners", apart := false, narrowed := true }
def LayOwnersUptoSaid : Prop := layOwnersUptoRow.holds Try.pinned (OpenSpec.upto layOwnersSpec)

/-- 'stackyardlaw04.LayKinds', WHERE WHAT IT READS IS OF BULK AT MOST 1048576: true; the input reads as it did. -/
def layKindsUptoRow : OpenClaim := { program := "yteokinaneilgjaa", sum := "b48e7bef1d66e333940148ca087f1dc253ec1859b00fff51d8500df96e91a433", func := "stackyard/stackyardlaw04.LayKinds", spec := "layKinds", apart := false, narrowed := true }
def LayKindsUptoSaid : Prop := layKindsUptoRow.holds Try.pinned (OpenSpec.upto layKindsSpec)

/-- 'stackyardlaw04.LayFits', WHERE WHAT IT READS IS OF BULK AT MOST 1048576: true; the input reads as it did. -/
def layFitsUptoRow : OpenClaim := { program := "yteokinaneilgjaa", sum := "b48e7bef1d66e333940148ca087f1dc253ec1859b00fff51d8500df96e91a433", func := "stackyard/stackyardlaw04.LayFits", spec := "layFits", apart := false, narrowed := true }
def LayFitsUptoSaid : Prop := layFitsUptoRow.holds Try.pinned (OpenSpec.upto layFitsSpec)

end Rows
end Go.Proofs.Yteokinaneilgjaa
