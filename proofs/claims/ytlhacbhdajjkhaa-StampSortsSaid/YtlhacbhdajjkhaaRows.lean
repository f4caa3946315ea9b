/-
  No cell of these rows narrows 'for every input' (looked for: loops, veiled, ifaces, maps, wideKeys, modest, calm, conditions, laid).
  DERIVED. THE GIVEN ROWS OF THIS SEAT. 12 by the template 'for every input the law returns true; each argument reads behind the call as it read before'; 0 by the template 'total and deterministic' (their statements: YtlhacbhdajjkhaaTotals.lean).
  GIVEN WITH THE SEED: the statements are not yours to turn. If you find one false, say at which input.
  Laid BY PROGRAM, IN A SANDBOX (cutbox-rows.mjs): the forced cells as the released guide's own fill.sh prints them over the translation 6703843e6694904b… (all of the seat's roots in one cut). By AI agents, Wed Nov 11 2026. No macro, syntax, notation, axiom, sorry.
-/
import Derived.Test.YtlhacbhdajjkhaaChecked
import GoSem.Claim
import GoSem.ClaimJoined
import GoSem.ClaimMapViews
import Derived.JoinedTies
import Derived.KernelRfl
namespace Go.Proofs.Ytlhacbhdajjkhaa
/- THE CELL 'sum', in the pinned program and in every row, IS THE sha256 OF THE DUMP (.gsa) THAT YtlhacbhdajjkhaaProg.lean LOADS. Nothing in Lean hashes anything: it is a label: what it is worth is what the hold of that sum in a sandbox is worth. -/
noncomputable def Try.pinned : Pinned := { name := "ytlhacbhdajjkhaa", sum := "6703843e6694904b9f7477c153fffaa18c24f0a0aabeeea767fc9814189efa77", checked := Try.checked }
namespace Rows
def none {H : Type} : Left H := { results := [], args := [] }

/-- 'stackyardlaw01.StampPairs': WHATEVER THE INPUT: true; the input reads as it did. -/
def stampPairsSpec : ChangeSpec := { name := "stampPairs", fn := fun _ => fun
  | [d1, d2] => { results := [.lit (.bool true)], args := [d1, d2] }
  | _ => none }
def stampPairsRow : OpenClaim := { program := "ytlhacbhdajjkhaa", sum := "6703843e6694904b9f7477c153fffaa18c24f0a0aabeeea767fc9814189efa77", func := "stackyard/stackyardlaw01.StampPairs", spec := "stampPairs", apart := false }
def StampPairsSaid : Prop := stampPairsRow.holds Try.pinned (OpenSpec.ofChange stampPairsSpec)

/-- ITS FALSE NEIGHBOUR: 'it returns false'. Refute it at one input. -/
def stampPairsWrong : ChangeSpec := { name := "stampPairs", fn := fun _ => fun
  | [d1, d2] => { results := [.lit (.bool false)], args := [d1, d2] }
  | _ => none }
def StampPairsWrongFalsely : Prop := stampPairsRow.holds Try.pinned (OpenSpec.ofChange stampPairsWrong)

/-- 'stackyardlaw01.StampRights': WHATEVER THE INPUT: true; the input reads as it did. -/
def stampRightsSpec : ChangeSpec := { name := "stampRights", fn := fun _ => fun
  | [d1, d2] => { results := [.lit (.bool true)], args := [d1, d2] }
  | _ => none }
def stampRightsRow : OpenClaim := { program := "ytlhacbhdajjkhaa", sum := "6703843e6694904b9f7477c153fffaa18c24f0a0aabeeea767fc9814189efa77", func := "stackyard/stackyardlaw01.StampRights", spec := "stampRights", apart := false }
def StampRightsSaid : Prop := stampRightsRow.holds Try.pinned (OpenSpec.ofChange stampRightsSpec)

/-- ITS FALSE NEIGHBOUR: 'it returns false'. Refute it at one input. -/
def stampRightsWrong : ChangeSpec := { name := "stampRights", fn := fun _ => fun
  | [d1, d2] => { results := [.lit (.bool false)], args := [d1, d2] }
  | _ => none }
def StampRightsWrongFalsely : Prop := stampRightsRow.holds Try.pinned (OpenSpec.ofChange stampRightsWrong)

/-- 'stackyardlaw01.StampOrder': WHATEVER THE INPUT: true; the input reads as it did. -/
def stampOrderSpec : ChangeSpec := { name := "stampOrder", fn := fun _ => fun
  | [d1, d2, d3] => { results := [.lit (.bool true)], args := [d1, d2, d3] }
  | _ => none }
def stampOrderRow : OpenClaim := { program := "ytlhacbhdajjkhaa", sum := "6703843e6694904b9f7477c153fffaa18c24f0a0aabeeea767fc9814189efa77", func := "stackyard/stackyardlaw01.StampOrder", spec := "stampOrder", apart := false }
def StampOrderSaid : Prop := stampOrderRow.holds Try.pinned (OpenSpec.ofChange stampOrderSpec)

/-- ITS FALSE NEIGHBOUR: 'it returns false'. Refute it at one input. -/
def stampOrderWrong : ChangeSpec := { name := "stampOrder", fn := fun _ => fun
  | [d1, d2, d3] => { results := [.lit (.bool false)], args := [d1, d2, d3] }
  | _ => none }
def StampOrderWrongFalsely : Prop := stampOrderRow.holds Try.pinned (OpenSpec.ofChange stampOrderWrong)

/-- 'stackyardlaw01.StampLeast': WHATEVER THE INPUT: true; the input reads as it did. -/
def stampLeastSpec : ChangeSpec := { name := "stampLeast", fn := fun _ => fun
  | [d] => { results := [.lit (.bool true)], args := [d] }
  | _ => none }
def stampLeastRow : OpenClaim := { program := "ytlhacbhdajjkhaa", sum := "6703843e6694904b9f7477c153fffaa18c24f0a0aabeeea767fc9814189efa77", func := "stackyard/stackyardlaw01.StampLeast", spec := "stampLeast", apart := false }
def StampLeastSaid : Prop := stampLeastRow.holds Try.pinned (OpenSpec.ofChange stampLeastSpec)

/-- ITS FALSE NEIGHBOUR: 'it returns false'. Refute it at one input. -/
def stampLeastWrong : ChangeSpec := { name := "stampLeast", fn := fun _ => fun
  | [d] => { results := [.lit (.bool false)], args := [d] }
  | _ => none }
def StampLeastWrongFalsely : Prop := stampLeastRow.holds Try.pinned (OpenSpec.ofChange stampLeastWrong)

/-- 'stackyardlaw01.StampJoins': WHATEVER THE INPUT: true; the input reads as it did. -/
def stampJoinsSpec : ChangeSpec := { name := "stampJoins", fn := fun _ => fun
  | [d1, d2, d3] => { results := [.lit (.bool true)], args := [d1, d2, d3] }
  | _ => none }
def stampJoinsRow : OpenClaim := { program := "ytlhacbhdajjkhaa", sum := "6703843e6694904b9f7477c153fffaa18c24f0a0aabeeea767fc9814189efa77", func := "stackyard/stackyardlaw01.StampJoins", spec := "stampJoins", apart := false }
def StampJoinsSaid : Prop := stampJoinsRow.holds Try.pinned (OpenSpec.ofChange stampJoinsSpec)

/-- ITS FALSE NEIGHBOUR: 'it returns false'. Refute it at one input. -/
def stampJoinsWrong : ChangeSpec := { name := "stampJoins", fn := fun _ => fun
  | [d1, d2, d3] => { results := [.lit (.bool false)], args := [d1, d2, d3] }
  | _ => none }
def StampJoinsWrongFalsely : Prop := stampJoinsRow.holds Try.pinned (OpenSpec.ofChange stampJoinsWrong)

/-- 'stackyardlaw01.StampSorts': WHATEVER THE INPUT: true; the input reads as it did. -/
def stampSortsSpec : ChangeSpec := { name := "stampSorts", fn := fun _ => fun
  | [d] => { results := [.lit (.bool true)], args := [d] }
  | _ => none }
def stampSortsRow : OpenClaim := { program := "ytlhacbhdajjkhaa", sum := "6703843e6694904b9f7477c153fffaa18c24f0a0aabeeea767fc9814189efa77", func := "stackyard/stackyardlaw01.StampSorts", spec := "stampSorts", apart := false }
def StampSortsSaid : Prop := stampSortsRow.holds Try.pinned (OpenSpec.ofChange stampSortsSpec)

/-- ITS FALSE NEIGHBOUR: 'it returns false'. Refute it at one input. -/
def stampSortsWrong : ChangeSpec := { name := "stampSorts", fn := fun _ => fun
  | [d] => { results := [.lit (.bool false)], args := [d] }
  | _ => none }
def StampSortsWrongFalsely : Prop := stampSortsRow.holds Try.pinned (OpenSpec.ofChange stampSortsWrong)

/-- 'stackyardlaw01.StampPoints': WHATEVER THE INPUT: true; the input reads as it did. -/
def stampPointsSpec : ChangeSpec := { name := "stampPoints", fn := fun _ => fun
  | [d1, d2] => { results := [.lit (.bool true)], args := [d1, d2] }
  | _ => none }
def stampPointsRow : OpenClaim := { program := "ytlhacbhdajjkhaa", sum := "6703843e6694904b9f7477c153fffaa18c24f0a0aabeeea767fc9814189efa77", func := "stackyard/stackyardlaw01.StampPoints", spec := "stampPoints", apart := false }
def StampPointsSaid : Prop := stampPointsRow.holds Try.pinned (OpenSpec.ofChange stampPointsSpec)

/-- ITS FALSE NEIGHBOUR: 'it returns false'. Refute it at one input. -/
def stampPointsWrong : ChangeSpec := { name := "stampPoints", fn := fun _ => fun
  | [d1, d2] => { results := [.lit (.bool false)], args := [d1, d2] }
  | _ => none }
def StampPointsWrongFalsely : Prop := stampPointsRow.holds Try.pinned (OpenSpec.ofChange stampPointsWrong)

/-- 'stackyardlaw02.WordPacks': WHATEVER THE INPUT: true; the input reads as it did. -/
def wordPacksSpec : ChangeSpec := { name := "wordPacks", fn := fun _ => fun
  | [d] => { results := [.lit (.bool true)], args := [d] }
  | _ => none }
def wordPacksRow : OpenClaim := { program := "ytlhacbhdajjkhaa", sum := "6703843e6694904b9f7477c153fffaa18c24f0a0aabeeea767fc9814189efa77", func := "stackyard/stackyardlaw02.WordPacks", spec := "wordPacks", apart := false }
def WordPacksSaid : Prop := wordPacksRow.holds Try.pinned (OpenSpec.ofChange wordPacksSpec)

/-- ITS FALSE NEIGHBOUR: 'it returns false'. Refute it at one input. -/
def wordPacksWrong : ChangeSpec := { name := "wordPacks", fn := fun _ => fun
  | [d] => { results := [.lit (.bool false)], args := [d] }
  | _ => none }
def WordPacksWrongFalsely : Prop := wordPacksRow.holds Try.pinned (OpenSpec.ofChange wordPacksWrong)

/-- 'stackyardlaw02.WordUnpacks': WHATEVER THE INPUT: true; the input reads as it did. -/
def wordUnpacksSpec : ChangeSpec := { name := "wordUnpacks", fn := fun _ => fun
  | [d] => { results := [.lit (.bool true)], args := [d] }
  | _ => none }
def wordUnpacksRow : OpenClaim := { program := "ytlhacbhdajjkhaa", sum := "6703843e6694904b9f7477c153fffaa18c24f0a0aabeeea767fc9814189efa77", func := "stackyard/stackyardlaw02.WordUnpacks", spec := "wordUnpacks", apart := false }
def WordUnpacksSaid : Prop := wordUnpacksRow.holds Try.pinned (OpenSpec.ofChange wordUnpacksSpec)

/-- ITS FALSE NEIGHBOUR: 'it returns false'. Refute it at one input. -/
def wordUnpacksWrong : ChangeSpec := { name := "wordUnpacks", fn := fun _ => fun
  | [d] => { results := [.lit (.bool false)], args := [d] }
  | _ => none }
def WordUnpacksWrongFalsely : Prop := wordUnpacksRow.holds Try.pinned (OpenSpec.ofChange wordUnpacksWrong)

/-- 'stackyardlaw02.WordApart': WHATEVER THE INPUT: true; the input reads as it did. -/
def wordApartSpec : ChangeSpec := { name := "wordApart", fn := fun _ => fun
  | [d1, d2] => { results := [.lit (.bool true)], args := [d1, d2] }
  | _ => none }
def wordApartRow : OpenClaim := { program := "ytlhacbhdajjkhaa", sum := "6703843e6694904b9f7477c153fffaa18c24f0a0aabeeea767fc9814189efa77", func := "stackyard/stackyardlaw02.WordApart", spec := "wordApart", apart := false }
def WordApartSaid : Prop := wordApartRow.holds Try.pinned (OpenSpec.ofChange wordApartSpec)

/-- ITS FALSE NEIGHBOUR: 'it returns false'. Refute it at one input. -/
def wordApartWrong : ChangeSpec := { name := "wordApart", fn := fun _ => fun
  | [d1, d2] => { results := [.lit (.bool false)], args := [d1, d2] }
  | _ => none }
def WordApartWrongFalsely : Prop := wordApartRow.holds Try.pinned (OpenSpec.ofChange wordApartWrong)

/-- 'stackyardlaw02.WordTurns': WHATEVER THE INPUT: true; the input reads as it did. -/
def wordTurnsSpec : ChangeSpec := { name := "wordTurns", fn := fun _ => fun
  | [d1, d2, d3] => { results := [.lit (.bool true)], args := [d1, d2, d3] }
  | _ => none }
def wordTurnsRow : OpenClaim := { program := "ytlhacbhdajjkhaa", sum := "6703843e6694904b9f7477c153fffaa18c24f0a0aabeeea767fc9814189efa77", func := "stackyard/stackyardlaw02.WordTurns", spec := "wordTurns", apart := false }
def WordTurnsSaid : Prop := wordTurnsRow.holds Try.pinned (OpenSpec.ofChange wordTurnsSpec)

/-- ITS FALSE NEIGHBOUR: 'it returns false'. Refute it at one input. -/
def wordTurnsWrong : ChangeSpec := { name := "wordTurns", fn := fun _ => fun
  | [d1, d2, d3] => { results := [.lit (.bool false)], args := [d1, d2, d3] }
  | _ => none }
def WordTurnsWrongFalsely : Prop := wordTurnsRow.holds Try.pinned (OpenSpec.ofChange wordTurnsWrong)

/-- 'stackyardlaw02.WordUses': WHATEVER THE INPUT: true; the input reads as it did. -/
def wordUsesSpec : ChangeSpec := { name := "wordUses", fn := fun _ => fun
  | [d1, d2] => { results := [.lit (.bool true)], args := [d1, d2] }
  | _ => none }
def wordUsesRow : OpenClaim := { program := "ytlhacbhdajjkhaa", sum := "6703843e6694904b9f7477c153fffaa18c24f0a0aabeeea767fc9814189efa77", func := "stackyard/stackyardlaw02.WordUses", spec := "wordUses", apart := false }
def WordUsesSaid : Prop := wordUsesRow.holds Try.pinned (OpenSpec.ofChange wordUsesSpec)

/-- ITS FALSE NEIGHBOUR: 'it returns false'. Refute it at one input. -/
def wordUsesWrong : ChangeSpec := { name := "wordUses", fn := fun _ => fun
  | [d1, d2] => { results := [.lit (.bool false)], args := [d1, d2] }
  | _ => none }
def WordUsesWrongFalsely : Prop := wordUsesRow.holds Try.pinned (OpenSpec.ofChange wordUsesWrong)

/- THE SECOND FORM. 'bulk': how many values and letters a reading holds, each counted each time it is reached (what is shared counts as often as it is met; a slice's spare places count too). A statement '..UptoSaid' is the law's where the arguments, and the package variables that the reading takes, are together of bulk at most 1048576: NARROWER than '..Said'. Prove '..Said' where nothing that the law and all that it calls make is longer than what came in: it says more and counts as full. Else prove '..UptoSaid'. A law counts once. -/
mutual
def uptoBulk {H : Type} : DataW H → Nat
  | .lit (.string bytes) => bytes.length + 1
  | .lit _ => 1
  | .nil => 1
  | .ptr d => uptoBulk d + 1
  | .slice elems spare => uptoBulkAll elems + uptoBulkAll spare + 1
  | .agg parts => uptoBulkAll parts + 1
  | .iface _ d => uptoBulk d + 1
  | .map entries => uptoBulkEntries entries + 1
  | .held _ => 1
def uptoBulkAll {H : Type} : List (DataW H) → Nat
  | [] => 0
  | d :: r => uptoBulk d + uptoBulkAll r
def uptoBulkEntries {H : Type} : List (Lit × DataW H) → Nat
  | [] => 0
  | x :: r => uptoBulkEntry x + uptoBulkEntries r
def uptoBulkEntry {H : Type} : Lit × DataW H → Nat
  | (.string bytes, d) => bytes.length + uptoBulk d + 1
  | (_, d) => uptoBulk d + 1
 end
def uptoSmall : (H : Type) → List (DataW H) → Bool := fun _ ds => decide (uptoBulkAll ds ≤ 1048576)
def OpenSpec.upto (s : _root_.Go.ChangeSpec) : _root_.Go.OpenSpec := { _root_.Go.OpenSpec.ofChange s with cond := some uptoSmall }

/-- 'stackyardlaw01.StampPairs', WHERE WHAT IT READS IS OF BULK AT MOST 1048576: true; the input reads as it did. -/
def stampPairsUptoRow : OpenClaim := { program := "ytlhacbhdajjkhaa", sum := "6703843e6694904b9f7477c153fffaa18c24f0a0aabeeea767fc9814189efa77", func := "stackyard/stackyardlaw01.StampPairs", spec := "stampPairs", apart := false, narrowed := true }
def StampPairsUptoSaid : Prop := stampPairsUptoRow.holds Try.pinned (OpenSpec.upto stampPairsSpec)

/-- 'stackyardlaw01.StampRights', WHERE WHAT IT READS IS OF BULK AT MOST 1048576: true; the input reads as it did. -/
def stampRightsUptoRow : OpenClaim := { program := "ytlhacbhdajjkhaa", sum := "6703843e6694904b9f7477c153fffaa18c24f0a0aabeeea767fc9814189efa77", func := "stackyard/stackyardlaw01.StampRights", spec := "stampRights", apart := false, narrowed := true }
def StampRightsUptoSaid : Prop := stampRightsUptoRow.holds Try.pinned (OpenSpec.upto stampRightsSpec)

/-- 'stackyardlaw01.StampOrder', WHERE WHAT IT READS IS OF BULK AT MOST 1048576: true; the input reads as it did. -/
def stampOrderUptoRow : OpenClaim := { program := "ytlhacbhdajjkhaa", sum := "6703843e6694904b9f7477c153fffaa18c24f0a0aabeeea767fc9814189efa77", func := "stackyard/stackyardlaw01.StampOrder", spec := "stampOrder", apart := false, narrowed := true }
def StampOrderUptoSaid : Prop := stampOrderUptoRow.holds Try.pinned (OpenSpec.upto stampOrderSpec)

/-- 'stackyardlaw01.StampLeast', WHERE WHAT IT READS IS OF BULK AT MOST 1048576: true; the input reads as it did. -/
def stampLeastUptoRow : OpenClaim := { program := "ytlhacbhdajjkhaa", sum := "6703843e6694904b9f7477c153fffaa18c24f0a0aabeeea767fc9814189efa77", func := "stackyard/stackyardlaw01.StampLeast", spec := "stampLeast", apart := false, narrowed := true }
def StampLeastUptoSaid : Prop := stampLeastUptoRow.holds Try.pinned (OpenSpec.upto stampLeastSpec)

/-- 'stackyardlaw01.StampJoins', WHERE WHAT IT READS IS OF BULK AT MOST 1048576: true; the input reads as it did. -/
def stampJoinsUptoRow : OpenClaim := { program := "ytlhacbhdajjkhaa", sum := "6703843e6694904b9f7477c153fffaa18c24f0a0aabeeea767fc9814189efa77", func := "stackyard/stackyardlaw01.StampJoins", spec := "stampJoins", apart := false, narrowed := true }
def StampJoinsUptoSaid : Prop := stampJoinsUptoRow.holds Try.pinned (OpenSpec.upto stampJoinsSpec)

/-- 'stackyardlaw01.StampSorts', WHERE WHAT IT READS IS OF BULK AT MOST 1048576: true; the input reads as it did. -/
def stampSortsUptoRow : OpenClaim := { program := "ytlhacbhdajjkhaa", sum := "6703843e6694904b9f7477c153fffaa18c24f0a0aabeeea767fc9814189efa77", func := "stackyard/stackyardlaw01.StampSorts", spec := "stampSorts", apart := false, narrowed := true }
def StampSortsUptoSaid : Prop := stampSortsUptoRow.holds Try.pinned (OpenSpec.upto stampSortsSpec)

/-- 'stackyardlaw01.StampPoints', WHERE WHAT IT READS IS OF BULK AT MOST 1048576: true; the input reads as it did. -/
def stampPointsUptoRow : OpenClaim := { program := "ytlhacbhdajjkhaa", sum := "6703843e6694904b9f7477c153fffaa18c24f0a0aabeeea767fc9814189efa77", func := "stackyard/stackyardlaw01.StampPoints", spec := "stampPoints", apart := false, narrowed := true }
def StampPointsUptoSaid : Prop := stampPointsUptoRow.holds Try.pinned (OpenSpec.upto stampPointsSpec)

/-- 'stackyardlaw02.WordPacks', WHERE WHAT IT READS IS OF BULK AT MOST 1048576: true; the input reads as it did. -/
def wordPacksUptoRow : OpenClaim := { program := "ytlhacbhdajjkhaa", sum := "6703843e6694904b9f7477c153fffaa18c24f0a0aabeeea767fc9814189efa77", func := "stackyard/stackyardlaw02.WordPacks", spec := "wordPacks", apart := false, narrowed := true }
def WordPacksUptoSaid : Prop := wordPacksUptoRow.holds Try.pinned (OpenSpec.upto wordPacksSpec)

/-- 'stackyardlaw02.WordUnpacks', WHERE WHAT IT READS IS OF BULK AT MOST 1048576: true; the input reads as it did. -/
def wordUnpacksUptoRow : OpenClaim := { program := "ytlhacbhdajjkhaa", sum := "6703843e6694904b9f7477c153fffaa18c24f0a0aabeeea767fc9814189efa77", func := "stackyard/stackyardlaw02.WordUnpacks", spec := "wordUnpacks", apart := false, narrowed := true }
def WordUnpacksUptoSaid : Prop := wordUnpacksUptoRow.holds Try.pinned (OpenSpec.upto wordUnpacksSpec)

/-- 'stackyardlaw02.WordApart', WHERE WHAT IT READS IS OF BULK AT MOST 1048576: true; the input reads as it did. -/
def wordApartUptoRow : OpenClaim := { program := "ytlhacbhdajjkhaa", sum := "6703843e6694904b9f7477c153fffaa18c24f0a0aabeeea767fc9814189efa77", func := "stackyard/stackyardlaw02.WordApart", spec := "wordApart", apart := false, narrowed := true }
def WordApartUptoSaid : Prop := wordApartUptoRow.holds Try.pinned (OpenSpec.upto wordApartSpec)

/-- 'stackyardlaw02.WordTurns', WHERE WHAT IT READS IS OF BULK AT MOST 1048576: true; the input reads as it did. -/
def wordTurnsUptoRow : OpenClaim := { program := "ytlhacbhdajjkhaa", sum := "6703843e6694904b9f7477c153fffaa18c24f0a0aabeeea767fc9814189efa77", func := "stackyard/stackyardlaw02.WordTurns", spec := "wordTurns", apart := false, narrowed := true }
def WordTurnsUptoSaid : Prop := wordTurnsUptoRow.holds Try.pinned (OpenSpec.upto wordTurnsSpec)

/-- 'stackyardlaw02.WordUses', WHERE WHAT IT READS IS OF BULK AT MOST 1048576: true; the input reads as it did. -/
def wordUsesUptoRow : OpenClaim := { program := "ytlhacbhdajjkhaa", sum := "6703843e6694904b9f7477c153fffaa18c24f0a0aabeeea767fc9814189efa77", func := "stackyard/stackyardlaw02.WordUses", spec := "wordUses", apart := false, narrowed := true }
def WordUsesUptoSaid : Prop := wordUsesUptoRow.holds Try.pinned (OpenSpec.upto wordUsesSpec)

end Rows
end Go.Proofs.Ytlhacbhdajjkhaa
