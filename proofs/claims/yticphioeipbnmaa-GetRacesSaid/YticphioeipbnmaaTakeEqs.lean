/-
  Plain lemmas: what a step of a take is, case by case. No Go. No condition.
-/
import Derived.Test.YticphioeipbnmaaMore
import Derived.Test.YticphioeipbnmaaTakeLaw
namespace Go.Proofs.Yticphioeipbnmaa
open Go.RowKit
set_option linter.unusedVariables false

section
variable {k : Ta} {j jv hz : Nat} {C : List Int}
theorem go_rest (hp : k.ph ≠ 0) : k.go j jv C = k ∧ k.cells j hz C = C ∧ k.ev j jv hz C = [] := by simp [Ta.go, Ta.cells, Ta.ev, hp]
theorem go_0 (hp : k.ph = 0) (h : k.next = 0) : k.go j jv C = { k with next := 1 } ∧ k.cells j hz C = C.set hz (k.slot + 1) ∧ k.ev j jv hz C = [⟨k.who, 1, hz, C.getD hz 0, k.slot + 1, true⟩] := by simp [Ta.go, Ta.cells, Ta.ev, hp, h]
theorem go_1y (hp : k.ph = 0) (h : k.next = 1) (hw : C.getD j 0 = k.word) : k.go j jv C = { k with next := 2 } ∧ k.cells j hz C = C ∧ k.ev j jv hz C = [⟨k.who, 0, j, C.getD j 0, C.getD j 0, true⟩] := by
  unfold Ta.go Ta.cells Ta.ev
  rw [hp, h]
  generalize C.getD j 0 = z at hw ⊢
  simp [hw]
theorem go_1n (hp : k.ph = 0) (h : k.next = 1) (hw : C.getD j 0 ≠ k.word) : k.go j jv C = { k with next := 4, lost := true } ∧ k.cells j hz C = C ∧ k.ev j jv hz C = [⟨k.who, 0, j, C.getD j 0, C.getD j 0, true⟩] := by
  unfold Ta.go Ta.cells Ta.ev
  rw [hp, h]
  generalize C.getD j 0 = z at hw ⊢
  simp [hw]
theorem go_2 (hp : k.ph = 0) (h : k.next = 2) : k.go j jv C = { k with value := C.getD jv 0, next := 3 } ∧ k.cells j hz C = C ∧ k.ev j jv hz C = [⟨k.who, 0, jv, C.getD jv 0, C.getD jv 0, true⟩] := by
  unfold Ta.go Ta.cells Ta.ev
  rw [hp, h]
  simp
theorem go_3y (hp : k.ph = 0) (h : k.next = 3) (hw : C.getD j 0 = k.word) : k.go j jv C = { k with next := 4 } ∧ k.cells j hz C = C.set j (tkW k.word) ∧ k.ev j jv hz C = [⟨k.who, 2, j, k.word, tkW k.word, true⟩] := by
  unfold Ta.go Ta.cells Ta.ev
  rw [hp, h]
  generalize C.getD j 0 = z at hw ⊢
  simp [hw]
theorem go_3n (hp : k.ph = 0) (h : k.next = 3) (hw : C.getD j 0 ≠ k.word) : k.go j jv C = { k with next := 4, lost := true } ∧ k.cells j hz C = C ∧ k.ev j jv hz C = [⟨k.who, 2, j, C.getD j 0, C.getD j 0, false⟩] := by
  unfold Ta.go Ta.cells Ta.ev
  rw [hp, h]
  generalize C.getD j 0 = z at hw ⊢
  simp [hw]
theorem go_4y (hp : k.ph = 0) (h : k.next = 4) (hl : k.lost = false) : k.go j jv C = { k with next := 5, ph := 1 } ∧ k.cells j hz C = C.set hz 0 ∧ k.ev j jv hz C = [⟨k.who, 1, hz, C.getD hz 0, 0, true⟩] := by
  unfold Ta.go Ta.cells Ta.ev
  rw [hp, h]
  simp [hl]
theorem go_4n (hp : k.ph = 0) (h : k.next = 4) (hl : k.lost = true) : k.go j jv C = { k with ph := 2 } ∧ k.cells j hz C = C.set hz 0 ∧ k.ev j jv hz C = [⟨k.who, 1, hz, C.getD hz 0, 0, true⟩] := by
  unfold Ta.go Ta.cells Ta.ev
  rw [hp, h]
  simp [hl]
end

theorem and_7 (a : Int) : bits .and .i64 a 7 = a % 8 := by rw [show (7 : Int) = ((7 : Nat) : Int) from rfl, and_i64 a 7 3 rfl (by decide)]; rfl

theorem getD_set_ne' {C : List Int} {i j : Nat} (x : Int) (h : i ≠ j) : (C.set i x).getD j 0 = C.getD j 0 := by
  rw [List.getD_eq_getElem?_getD, List.getElem?_set_ne h, ← List.getD_eq_getElem?_getD]
theorem getD_set_eq' {C : List Int} {i : Nat} (x : Int) (h : i < C.length) : (C.set i x).getD i 0 = x := by
  rw [List.getD_eq_getElem?_getD, List.getElem?_set_self h]
  rfl
end Go.Proofs.Yticphioeipbnmaa
