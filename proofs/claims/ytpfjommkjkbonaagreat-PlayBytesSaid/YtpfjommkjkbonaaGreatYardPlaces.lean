/-
  Contracts of Words and Values of a yard. No condition but that numbers fit their kinds.
-/
import Derived.Test.YtpfjommkjkbonaaGreatYardTells
namespace Go.Proofs.YtpfjommkjkbonaaGreat
open Go.RowKit
set_option linter.unusedVariables false

/-- A new list of what stands in one cell of each place. -/
def PlacesPost (C : List Int) (N off : Nat) (w : World) (r : Ending) (w' : World) : Prop :=
  ∃ (u : Value) (Xs : List Int), r = .returned u ∧ w'.ownsRow w.heap.size 30 1 u N (Xs.map u64) ∧ Xs.length = N ∧ (∀ i, i < N → Xs.getD i 0 = C.getD (off + i) 0) ∧ Below w.heap.size w w'

section
variable {W w w' : World} {l : List Thing} {B : YB} {Y : Yd} {J : Nat → Nat} {v vd : Value} {X : List Value}
end

end Go.Proofs.YtpfjommkjkbonaaGreat
