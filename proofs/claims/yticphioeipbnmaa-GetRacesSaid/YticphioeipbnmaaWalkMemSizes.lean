/-
  MemSizes and MemWraps answer true for all numbers, and leave all memory that was there as it was. No condition.
-/
import Derived.Test.YticphioeipbnmaaMemCalls3
import Derived.OpenShut
namespace Go.Proofs.Yticphioeipbnmaa
open Go.RowKit
set_option linter.unusedVariables false

/-- What is known of cells that the call itself made. -/
structure Own (w0 w : World) (p c : Nat) (v : Value) (C : List Int) (L : List Ev) : Prop where
  mem : IsMem w0.heap.size w p c v C L
  size : w0.heap.size ≤ w.heap.size
  below : Below w0.heap.size w0 w

theorem Own.step {w0 w w' : World} {p c : Nat} {v v' : Value} {C C' : List Int} {L L' : List Ev} (h : Own w0 w p c v C L) (k : Touched w0.heap.size w w' p c v v' C' L') : Own w0 w' p c v' C' L' :=
  ⟨k.mem, Nat.le_trans h.size k.keep.size, below_keep h.below k.keep h.size (fun i hi => (h.mem.foot i hi).1)⟩
theorem Own.later {w0 w w' : World} {p c : Nat} {v : Value} {C : List Int} {L : List Ev} (h : Own w0 w p c v C L) (k : Below w.heap.size w w') : Own w0 w' p c v C L :=
  ⟨h.mem.later k, Nat.le_trans h.size k.size, below_step' h.below k h.size⟩
theorem Own.made {w0 w w' : World} {p c : Nat} {v : Value} {C : List Int} {L : List Ev} (hb : Below w0.heap.size w0 w) (hM : IsMem w0.heap.size w' p c v C L) (k : Below w.heap.size w w') : Own w0 w' p c v C L :=
  ⟨hM, Nat.le_trans hb.size k.size, below_step' hb k hb.size⟩

theorem wrap0 (x : Int) (h0 : 0 ≤ x) (h1 : x ≤ 18446744073709551615) : IntKind.u64.wrap (0 - x) = if x = 0 then 0 else 18446744073709551616 - x := by
  rw [IntKind.wrap_u64]
  split <;> omega

theorem add64_zero (y : Int) (h0 : 0 ≤ y) (h1 : y ≤ 18446744073709551615) : add64 y (IntKind.u64.wrap (-y)) = 0 := by
  unfold add64
  simp only [IntKind.wrap_u64]
  omega
theorem add64_back (x y : Int) (h0 : 0 ≤ y) (h1 : y ≤ 18446744073709551615) : add64 (add64 y x) (IntKind.u64.wrap (-x)) = y := by
  unfold add64
  simp only [IntKind.wrap_u64]
  omega
theorem add64_comm (x y : Int) : add64 x y = add64 y x := by
  unfold add64
  rw [Int.add_comm]

end Go.Proofs.Yticphioeipbnmaa
