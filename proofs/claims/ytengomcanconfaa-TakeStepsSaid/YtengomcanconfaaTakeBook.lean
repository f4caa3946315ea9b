/-
  Plain lemmas: the books that the law on a take's steps keeps, beside the take. No Go. No condition.
-/
import Derived.Test.YtengomcanconfaaTakeEqs
namespace Go.Proofs.Ytengomcanconfaa
open Go.RowKit
set_option linter.unusedVariables false

/-- While it runs: n steps are behind it. -/
structure BookOn (n : Int) (lost : Bool) (value : Int) (k : Ta) : Prop where
  ph : k.ph = 0
  lo : k.lost = lost
  nx : (lost = false ∧ k.next = n ∧ 0 ≤ n ∧ n ≤ 4) ∨ (lost = true ∧ k.next = 4 ∧ (n = 2 ∨ n = 4))
  va : lost = false → 3 ≤ n → k.value = value
/-- When it is over. -/
def BookEnd (phase value : Int) (k : Ta) : Prop := k.ph = phase ∧ ((phase = 1 ∧ k.value = value) ∨ phase = 2)

section
variable {k : Ta} {j jv hz : Nat} {C : List Int} {n value phase : Int}
theorem BookOn.s0 (h : BookOn 0 false value k) : BookOn 1 false value (k.go j jv C) ∧ k.cells j hz C = C.set hz (k.slot + 1) ∧ k.ev j jv hz C = [⟨k.who, 1, hz, C.getD hz 0, k.slot + 1, true⟩] := by
  have hn : k.next = 0 := by rcases h.nx with ⟨_, h, _⟩ | ⟨h, _⟩; exact h; cases h
  obtain ⟨e1, e2, e3⟩ := go_0 (j := j) (jv := jv) (hz := hz) (C := C) h.ph hn
  rw [e1]
  exact ⟨⟨h.ph, h.lo, .inl ⟨rfl, rfl, by omega, by omega⟩, fun _ h => by omega⟩, e2, e3⟩
theorem BookOn.s1y (h : BookOn 1 false value k) (hw : C.getD j 0 = k.word) : BookOn 2 false value (k.go j jv C) ∧ k.cells j hz C = C ∧ k.ev j jv hz C = [⟨k.who, 0, j, C.getD j 0, C.getD j 0, true⟩] := by
  have hn : k.next = 1 := by rcases h.nx with ⟨_, h, _⟩ | ⟨h, _⟩; exact h; cases h
  obtain ⟨e1, e2, e3⟩ := go_1y (j := j) (jv := jv) (hz := hz) (C := C) h.ph hn hw
  rw [e1]
  exact ⟨⟨h.ph, h.lo, .inl ⟨rfl, rfl, by omega, by omega⟩, fun _ h => by omega⟩, e2, e3⟩
theorem BookOn.s1n (h : BookOn 1 false value k) (hw : C.getD j 0 ≠ k.word) : BookOn 2 true value (k.go j jv C) ∧ k.cells j hz C = C ∧ k.ev j jv hz C = [⟨k.who, 0, j, C.getD j 0, C.getD j 0, true⟩] := by
  have hn : k.next = 1 := by rcases h.nx with ⟨_, h, _⟩ | ⟨h, _⟩; exact h; cases h
  obtain ⟨e1, e2, e3⟩ := go_1n (j := j) (jv := jv) (hz := hz) (C := C) h.ph hn hw
  rw [e1]
  exact ⟨⟨h.ph, rfl, .inr ⟨rfl, rfl, .inl rfl⟩, fun h => by cases h⟩, e2, e3⟩
theorem BookOn.s2 (h : BookOn 2 false value k) : BookOn 3 false (C.getD jv 0) (k.go j jv C) ∧ k.cells j hz C = C ∧ k.ev j jv hz C = [⟨k.who, 0, jv, C.getD jv 0, C.getD jv 0, true⟩] := by
  have hn : k.next = 2 := by rcases h.nx with ⟨_, h, _⟩ | ⟨h, _⟩; exact h; cases h
  obtain ⟨e1, e2, e3⟩ := go_2 (j := j) (jv := jv) (hz := hz) (C := C) h.ph hn
  rw [e1]
  exact ⟨⟨h.ph, h.lo, .inl ⟨rfl, rfl, by omega, by omega⟩, fun _ _ => rfl⟩, e2, e3⟩
theorem BookOn.s3y (h : BookOn 3 false value k) (hw : C.getD j 0 = k.word) : BookOn 4 false value (k.go j jv C) ∧ k.cells j hz C = C.set j (tkW k.word) ∧ k.ev j jv hz C = [⟨k.who, 2, j, k.word, tkW k.word, true⟩] := by
  have hn : k.next = 3 := by rcases h.nx with ⟨_, h, _⟩ | ⟨h, _⟩; exact h; cases h
  obtain ⟨e1, e2, e3⟩ := go_3y (j := j) (jv := jv) (hz := hz) (C := C) h.ph hn hw
  rw [e1]
  exact ⟨⟨h.ph, h.lo, .inl ⟨rfl, rfl, by omega, by omega⟩, fun _ _ => h.va rfl (by omega)⟩, e2, e3⟩
theorem BookOn.s3n (h : BookOn 3 false value k) (hw : C.getD j 0 ≠ k.word) : BookOn 4 true value (k.go j jv C) ∧ k.cells j hz C = C ∧ k.ev j jv hz C = [⟨k.who, 2, j, C.getD j 0, C.getD j 0, false⟩] := by
  have hn : k.next = 3 := by rcases h.nx with ⟨_, h, _⟩ | ⟨h, _⟩; exact h; cases h
  obtain ⟨e1, e2, e3⟩ := go_3n (j := j) (jv := jv) (hz := hz) (C := C) h.ph hn hw
  rw [e1]
  exact ⟨⟨h.ph, rfl, .inr ⟨rfl, rfl, .inr rfl⟩, fun h => by cases h⟩, e2, e3⟩
theorem BookOn.s4y (h : BookOn 4 false value k) : BookEnd 1 value (k.go j jv C) ∧ k.cells j hz C = C.set hz 0 ∧ k.ev j jv hz C = [⟨k.who, 1, hz, C.getD hz 0, 0, true⟩] := by
  have hn : k.next = 4 := by rcases h.nx with ⟨_, h, _⟩ | ⟨h, _⟩; exact h; cases h
  obtain ⟨e1, e2, e3⟩ := go_4y (j := j) (jv := jv) (hz := hz) (C := C) h.ph hn h.lo
  rw [e1]
  exact ⟨⟨rfl, .inl ⟨rfl, h.va rfl (by omega)⟩⟩, e2, e3⟩
theorem BookOn.s4n (h : BookOn n true value k) : BookEnd 2 value (k.go j jv C) ∧ k.cells j hz C = C.set hz 0 ∧ k.ev j jv hz C = [⟨k.who, 1, hz, C.getD hz 0, 0, true⟩] := by
  have hn : k.next = 4 := by rcases h.nx with ⟨h, _⟩ | ⟨_, h, _⟩; cases h; exact h
  obtain ⟨e1, e2, e3⟩ := go_4n (j := j) (jv := jv) (hz := hz) (C := C) h.ph hn h.lo
  rw [e1]
  exact ⟨⟨rfl, .inr rfl⟩, e2, e3⟩
theorem BookEnd.rest (h : BookEnd phase value k) : BookEnd phase value (k.go j jv C) ∧ k.cells j hz C = C ∧ k.ev j jv hz C = [] := by
  obtain ⟨hp, hc⟩ := h
  have h0 : k.ph ≠ 0 := by omega
  obtain ⟨e1, e2, e3⟩ := go_rest (j := j) (jv := jv) (hz := hz) (C := C) h0
  rw [e1]
  exact ⟨⟨hp, hc⟩, e2, e3⟩
/-- Which step comes: what the law's switch asks. -/
theorem BookOn.cases {lost : Bool} (h : BookOn n lost value k) : lost = true ∨ (lost = false ∧ (n = 0 ∨ n = 1 ∨ n = 2 ∨ n = 3 ∨ n = 4)) := by
  rcases h.nx with ⟨h, _, _⟩ | ⟨h, _⟩
  · exact .inr ⟨h, by omega⟩
  · exact .inl h
/-- What Value answers. -/
theorem BookOn.value0 {lost : Bool} (h : BookOn n lost value k) : (if k.ph = 1 then k.value else 0) = 0 := by rw [if_neg (by rw [h.ph]; omega)]
theorem BookEnd.value1 (h : BookEnd 1 value k) : (if k.ph = 1 then k.value else 0) = value := by
  rw [if_pos h.1]
  rcases h.2 with ⟨_, h⟩ | h
  · exact h
  · omega
theorem BookEnd.value2 (h : BookEnd 2 value k) : (if k.ph = 1 then k.value else 0) = 0 := by rw [if_neg (by rw [h.1]; omega)]
end
end Go.Proofs.Ytengomcanconfaa
