/-
  Plain lemmas, over any program: trees of orders with operations whose guard is false, and with guarded ones that are run. No condition.
-/
import Derived.Test.YtebgjfhaolgcjaaRegionT
namespace Go.Proofs.Ytebgjfhaolgcjaa
open Go.RowKit
set_option linter.unusedVariables false

section
variable {P : Program} {ops : Array Oper} {Q : Exit → Act → World → Prop} {S : World → Prop}
theorem seqT_skip {i : Nat} {σ : Sc} {o : Oper} {a : Act} {w : World} (ho : ops.toList[i]? = some o) (hw : Region.wanted o (yielded ops a.tmps) = false)
    (h : seqT P ops Q S σ (a.put o.dst undef) w) : seqT P ops Q S (.take i σ) a w :=
  ⟨o, undef, by rw [← Array.getElem?_toList]; exact ho, .inr ⟨hw, rfl⟩, h⟩
theorem runT_on {i : Nat} {σ : Sc} {o : Oper} {a : Act} {w : World} (ho : ops.toList[i]? = some o) (hw : Region.wanted o (yielded ops a.tmps) = true)
    (h : ∀ K' : Act → World → Prop, Shut (∀ a w, S w → (S w → seqT P ops Q S σ a w) → K' a w) → Oper.wp P o a w K' Q) :
    wpOp P ops Q i (fun a' w' => S w' ∧ seqT P ops Q S σ a' w') a w :=
  runT ho (fun K' hK => by rw [if_pos hw]; exact h K' hK)
theorem runT_skip {i : Nat} {σ : Sc} {o : Oper} {a : Act} {w : World} (ho : ops.toList[i]? = some o) (hw : Region.wanted o (yielded ops a.tmps) = false) (hS : S w)
    (h : seqT P ops Q S σ (a.put o.dst undef) w) : wpOp P ops Q i (fun a' w' => S w' ∧ seqT P ops Q S σ a' w') a w :=
  runT ho (fun K' hK => by rw [if_neg (by rw [hw]; decide)]; exact hK.out _ _ hS (fun _ => h))
end
end Go.Proofs.Ytebgjfhaolgcjaa
