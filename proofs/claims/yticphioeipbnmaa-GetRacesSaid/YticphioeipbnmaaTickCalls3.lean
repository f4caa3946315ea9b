/-
  Contracts of the functions of package tick, continued: by Swap, by the time; a step; how many there are at most. No condition but that numbers fit their kinds.
-/
import Derived.Test.YticphioeipbnmaaTickCalls2
namespace Go.Proofs.Yticphioeipbnmaa
open Go.RowKit
set_option linter.unusedVariables false

theorem fin_seen (k : Tk) (x y : Int) : (fin k x y).seen = k.seen := by unfold fin; split <;> rfl

section
variable (base : Nat) (w : World) (b p c : Nat) (v : Value) (C : List Int) (L : List Ev) (k : Tk) (nb : Nat) (n : Int)

theorem low_min (x : Int) (h : 0 ≤ x) : 0 ≤ low x ∧ low x ≤ 16777215 := low_range x h

end

end Go.Proofs.Yticphioeipbnmaa
