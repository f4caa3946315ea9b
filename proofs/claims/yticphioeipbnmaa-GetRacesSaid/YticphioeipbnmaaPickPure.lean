/-
  Plain lemmas on what stands where: the order of places as an order of numbers; lists that rise are the same if they hold the same. No Go. No condition.
-/
import Derived.Test.YticphioeipbnmaaStampCalls
namespace Go.Proofs.Yticphioeipbnmaa
open Go.RowKit
set_option linter.unusedVariables false

/-- A stamp and a place's number, as one number. -/
def lkey (a b : Int) (i : Nat) : Int := (a * 16777216 + b) * 1048576 + i
theorem lkey_nn {a b : Int} {i : Nat} (a0 : 0 ≤ a) (b0 : 0 ≤ b) : 0 ≤ lkey a b i := by unfold lkey; omega
theorem cmpS_cases (a b c d : Int) : (cmpS a b c d = -1 ∧ (a < c ∨ (a = c ∧ b < d))) ∨ (cmpS a b c d = 0 ∧ a = c ∧ b = d) ∨ (cmpS a b c d = 1 ∧ (c < a ∨ (a = c ∧ d < b))) := by
  unfold cmpS orI cmpI
  rcases Int.lt_trichotomy a c with h | h | h
  · left
    simp [h]
  · subst h
    rcases Int.lt_trichotomy b d with h2 | h2 | h2
    · left
      simp [h2]
    · subst h2
      right; left
      simp
    · right; right
      have h3 : ¬ b < d := by omega
      simp [h2, h3]
  · right; right
    have h3 : ¬ a < c := by omega
    simp [h, h3]
/-- Later is: of a greater number. -/
theorem later_key {a b c d : Int} {i j : Nat} (b0 : 0 ≤ b) (b1 : b < 16777216) (d0 : 0 ≤ d) (d1 : d < 16777216) (i1 : i < 1048576) (j1 : j < 1048576) :
    (0 < cmpS a b c d ∨ (cmpS a b c d = 0 ∧ j < i)) ↔ lkey c d j < lkey a b i := by
  unfold lkey
  rcases cmpS_cases a b c d with ⟨h, h2⟩ | ⟨h, rfl, rfl⟩ | ⟨h, h2⟩
  · rw [h]
    constructor
    · rintro (h3 | ⟨h3, _⟩) <;> omega
    · intro h3
      omega
  · rw [h]
    constructor
    · rintro (h3 | ⟨_, h3⟩) <;> omega
    · intro h3
      exact .inr ⟨rfl, by omega⟩
  · rw [h]
    constructor
    · intro _
      omega
    · intro _
      exact .inl (by decide)

/-- Where a place stands, from left to right: e is its End. -/
def pkey (e a b : Int) (i : Nat) : Int := if e = 0 then -1 - lkey a b i else lkey a b i
theorem ahead_key {e f a b c d : Int} {i j : Nat} (he : e = 0 ∨ e = 1) (hf : f = 0 ∨ f = 1) (a0 : 0 ≤ a) (b0 : 0 ≤ b) (b1 : b < 16777216) (c0 : 0 ≤ c) (d0 : 0 ≤ d) (d1 : d < 16777216) (i1 : i < 1048576) (j1 : j < 1048576) :
    pkey e a b i < pkey f c d j ↔ if e ≠ f then e = 0 else if e = 0 then (0 < cmpS a b c d ∨ (cmpS a b c d = 0 ∧ j < i)) else (0 < cmpS c d a b ∨ (cmpS c d a b = 0 ∧ i < j)) := by
  have k1 := later_key (a := a) (b := b) (c := c) (d := d) (i := i) (j := j) b0 b1 d0 d1 i1 j1
  have k2 := later_key (a := c) (b := d) (c := a) (d := b) (i := j) (j := i) d0 d1 b0 b1 j1 i1
  have n1 := lkey_nn (i := i) a0 b0
  have n2 := lkey_nn (i := j) c0 d0
  unfold pkey
  rcases he with rfl | rfl <;> rcases hf with rfl | rfl
  · rw [if_pos rfl, if_pos rfl, if_neg (by simp), if_pos rfl, k1]
    omega
  · rw [if_pos rfl, if_neg (by decide), if_pos (by decide)]
    exact ⟨fun _ => rfl, fun _ => by omega⟩
  · rw [if_neg (by decide), if_pos rfl, if_pos (by decide)]
    exact ⟨fun h => by omega, fun h => absurd h (by decide)⟩
  · rw [if_neg (by decide), if_neg (by decide), if_neg (by simp), if_neg (by decide), k2]
theorem pkey_inj {e f a b c d : Int} {i j : Nat} (he : e = 0 ∨ e = 1) (hf : f = 0 ∨ f = 1) (a0 : 0 ≤ a) (b0 : 0 ≤ b) (b1 : b < 16777216) (c0 : 0 ≤ c) (d0 : 0 ≤ d) (d1 : d < 16777216) (i1 : i < 1048576) (j1 : j < 1048576) (h : pkey e a b i = pkey f c d j) : i = j ∧ e = f ∧ a = c ∧ b = d := by
  have n1 := lkey_nn (i := i) a0 b0
  have n2 := lkey_nn (i := j) c0 d0
  unfold pkey at h
  rcases he with rfl | rfl <;> rcases hf with rfl | rfl
  · rw [if_pos rfl, if_pos rfl] at h
    unfold lkey at h
    omega
  · rw [if_pos rfl, if_neg (by decide)] at h
    omega
  · rw [if_neg (by decide), if_pos rfl] at h
    omega
  · rw [if_neg (by decide), if_neg (by decide)] at h
    unfold lkey at h
    omega

/-- Two lists that rise by a number that tells all apart, and hold the same, are the same. -/
theorem rise_ext {α : Type} (f : α → Int) : ∀ (S T : List α), S.Pairwise (fun x y => f x < f y) → T.Pairwise (fun x y => f x < f y) → (∀ x, x ∈ S ↔ x ∈ T) → S = T
  | [], [], _, _, _ => rfl
  | [], y :: T, _, _, h => absurd ((h y).2 List.mem_cons_self) (by simp)
  | x :: S, [], _, _, h => absurd ((h x).1 List.mem_cons_self) (by simp)
  | x :: S, y :: T, hS, hT, h => by
    rw [List.pairwise_cons] at hS hT
    have hxy : x = y := by
      rcases List.mem_cons.1 ((h x).1 List.mem_cons_self) with e | hx
      · exact e
      · rcases List.mem_cons.1 ((h y).2 List.mem_cons_self) with e | hy
        · exact e.symm
        · have h1 := hT.1 x hx
          have h2 := hS.1 y hy
          omega
    subst hxy
    rw [rise_ext f S T hS.2 hT.2 (fun z => ?_)]
    constructor
    · intro hz
      rcases List.mem_cons.1 ((h z).1 (List.mem_cons_of_mem _ hz)) with e | hz2
      · subst e
        have := hS.1 z hz
        omega
      · exact hz2
    · intro hz
      rcases List.mem_cons.1 ((h z).2 (List.mem_cons_of_mem _ hz)) with e | hz2
      · subst e
        have := hT.1 z hz
        omega
      · exact hz2

/-- One more is put in where it belongs. -/
theorem rise_insert {α : Type} (f : α → Int) (S : List α) (x : α) (k : Nat) (hS : S.Pairwise (fun x y => f x < f y)) (hk : k ≤ S.length) (h1 : ∀ j (hj : j < S.length), j < k → f S[j] < f x) (h2 : ∀ hj : k < S.length, f x < f S[k]) :
    (S.take k ++ x :: S.drop k).Pairwise (fun x y => f x < f y) ∧ ∀ z, z ∈ S.take k ++ x :: S.drop k ↔ z = x ∨ z ∈ S := by
  have hlt : ∀ a ∈ S.take k, f a < f x := fun a ha => by
    obtain ⟨j, hj, rfl⟩ := List.getElem_of_mem ha
    rw [List.length_take] at hj
    rw [List.getElem_take]
    exact h1 j (by omega) (by omega)
  have hgt : ∀ a ∈ S.drop k, f x < f a := fun a ha => by
    obtain ⟨j, hj, rfl⟩ := List.getElem_of_mem ha
    rw [List.length_drop] at hj
    rw [List.getElem_drop]
    have hk2 : k < S.length := by omega
    have h3 := h2 hk2
    rcases Nat.eq_zero_or_pos j with rfl | hj0
    · exact h3
    · have h4 := List.pairwise_iff_getElem.1 hS k (k + j) hk2 (by omega) (by omega)
      omega
  refine ⟨?_, fun z => ?_⟩
  · rw [List.pairwise_append]
    refine ⟨hS.sublist (List.take_sublist _ _), List.pairwise_cons.2 ⟨hgt, hS.sublist (List.drop_sublist _ _)⟩, fun a ha b hb => ?_⟩
    rcases List.mem_cons.1 hb with rfl | hb
    · exact hlt a ha
    · have := hlt a ha
      have := hgt b hb
      omega
  · rw [List.mem_append, List.mem_cons]
    constructor
    · rintro (h | rfl | h)
      · exact .inr (List.mem_of_mem_take h)
      · exact .inl rfl
      · exact .inr (List.mem_of_mem_drop h)
    · rintro (rfl | h)
      · exact .inr (.inl rfl)
      · rw [← List.take_append_drop k S, List.mem_append] at h
        exact h.imp id (fun h => .inr h)

end Go.Proofs.Yticphioeipbnmaa
