/-
  Contracts of the functions of package tick, continued: by Stutter, by Swap, by the time. No condition but that numbers fit their kinds.
-/
import Derived.Test.YticphioeipbnmaaTickCalls
namespace Go.Proofs.Yticphioeipbnmaa
open Go.RowKit
set_option linter.unusedVariables false

section
variable (base : Nat) (w : World) (b p c : Nat) (v : Value) (C : List Int) (L : List Ev) (k : Tk) (nb : Nat) (n : Int)

theorem Stepped.out {base : Nat} {w w1 : World} {b p c : Nat} {v v1 : Value} {k : Tk} {C : List Int} {L : List Ev} (h : Stepped base w w1 b p c v v1 k C L) : IsTk w1 b k ∧ w1.frozen? ⟨b, 5, none⟩ = false ∧ w1.frozen? ⟨b, 6, none⟩ = false ∧ w1.frozen? ⟨b, 7, none⟩ = false := ⟨h.tk, h.tk.fz 5, h.tk.fz 6, h.tk.fz 7⟩

end

end Go.Proofs.Yticphioeipbnmaa
