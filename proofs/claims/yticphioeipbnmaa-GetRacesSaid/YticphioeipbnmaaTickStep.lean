/-
  Contracts of Step, Phase, Stamp, New and Most of package tick. No condition but that numbers fit their kinds.
-/
import Derived.Test.YticphioeipbnmaaTickCalls3
namespace Go.Proofs.Yticphioeipbnmaa
open Go.RowKit
set_option linter.unusedVariables false

theorem fin_steps (k : Tk) (x y : Int) : (fin k x y).steps = k.steps := by unfold fin; split <;> rfl

section
variable (base : Nat) (w : World) (b p c : Nat) (v : Value) (C : List Int) (L : List Ev) (k : Tk) (nb : Nat) (n : Int)

/-- A stamp that is begun. -/
def tk0 (t s so d who : Int) : Tk := ⟨t, s, so, d, who, 0, 0, 0, 0, 0⟩

/-- How many steps at most. -/
def most (t so d : Int) : Int := if so = 0 then 1 else if so = 1 then t + 1 else if so = 2 then 4 else if so = 3 then 1 else d + 2

theorem getD_at {C : List Int} {i : Nat} (h : i < C.length) : C[i]? = some (C.getD i 0) := by
  rw [List.getD_eq_getElem?_getD, List.getElem?_eq_getElem h]
  rfl

theorem fin_with (k : Tk) (m x y : Int) : { fin k x y with steps := m } = fin { k with steps := m } x y := by unfold fin; split <;> rfl
theorem fin_ph (k : Tk) (m x y : Int) : (fin k x y).ph = (fin { k with steps := m } x y).ph := by unfold fin; split <;> rfl

theorem step_fit {F : FuncId} {args : Array Value} {k1 k2 : Tk} {C1 C2 : List Int} {L1 L2 : List Ev} {q : Int} (h : Calls Try.prog F args w (TickPost base w b p c v k1 C1 L1 (.returned (i64 q)))) (hk : k1 = k2) (hq : q = k2.ph) (hC : C1 = C2) (hL : L1 = L2) :
    Calls Try.prog F args w (TickPost base w b p c v k2 C2 L2 (.returned (i64 k2.ph))) := by
  subst hk hq hC hL
  exact h

end

end Go.Proofs.Yticphioeipbnmaa
