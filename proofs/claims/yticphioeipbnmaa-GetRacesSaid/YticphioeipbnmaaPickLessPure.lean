/-
  Plain lemmas: without what stands at an end the others stand as they did. No condition.
-/
import Derived.Test.YticphioeipbnmaaPickOrder
namespace Go.Proofs.Yticphioeipbnmaa
open Go.RowKit
set_option linter.unusedVariables false

theorem getD_set_other (ws : List Int) (k : Nat) (y : Int) {i : Nat} (h : i ≠ k) : (ws.set k y).getD i 0 = ws.getD i 0 := by
  rw [List.getD_eq_getElem?_getD, List.getElem?_set_ne (fun e => h e.symm), ← List.getD_eq_getElem?_getD]
theorem getD_set_same (ws : List Int) (k : Nat) (y : Int) (h : k < ws.length) : (ws.set k y).getD k 0 = y := by
  rw [List.getD_eq_getElem?_getD, List.getElem?_set_self h]
  rfl
theorem fit_set {ws : List Int} {k : Nat} {y : Int} (hf : ∀ i, 0 ≤ ws.getD i 0 ∧ ws.getD i 0 ≤ 18446744073709551615) (hk : k < ws.length) (y0 : 0 ≤ y) (y1 : y ≤ 18446744073709551615) (i : Nat) : 0 ≤ (ws.set k y).getD i 0 ∧ (ws.set k y).getD i 0 ≤ 18446744073709551615 := by
  by_cases h : i = k
  · subst h
    rw [getD_set_same _ _ _ hk]
    exact ⟨y0, y1⟩
  · rw [getD_set_other _ _ _ h]
    exact hf i

/-- Without one of them the others stand as they did. -/
theorem order_without {ws : List Int} {S T : List Nat} {k : Nat} {y : Int} (h : IsOrder ws S) (hk : k < ws.length) (hy : y % 4 = 2) (hT : T.Sublist S) (hm : ∀ i, i ∈ T ↔ i ∈ S ∧ i ≠ k) : IsOrder (ws.set k y) T := by
  refine ⟨?_, fun i => ?_⟩
  · have h1 := h.rise.sublist hT
    refine List.Pairwise.imp_of_mem (fun {a b} ha hb hab => ?_) h1
    unfold wkey at hab ⊢
    rw [getD_set_other _ _ _ ((hm a).1 ha).2, getD_set_other _ _ _ ((hm b).1 hb).2]
    exact hab
  · rw [hm i, h.mem i, List.length_set]
    constructor
    · rintro ⟨⟨h1, h2⟩, h3⟩
      exact ⟨h1, by show (ws.set k y).getD i 0 % 4 = 1; rw [getD_set_other _ _ _ h3]; exact h2⟩
    · rintro ⟨h1, h2⟩
      have h2' : (ws.set k y).getD i 0 % 4 = 1 := h2
      by_cases h3 : i = k
      · subst h3
        rw [getD_set_same _ _ _ hk] at h2'
        omega
      · rw [getD_set_other _ _ _ h3] at h2'
        exact ⟨⟨h1, h2'⟩, h3⟩

theorem less_left {ws : List Int} {S : List Nat} {k : Nat} {y : Int} (h : IsOrder ws S) (hk : k < ws.length) (hl : live ws k) (hle : ∀ j, j < ws.length → live ws j → wkey ws k ≤ wkey ws j) (hy : y % 4 = 2) : ∃ T, S = k :: T ∧ IsOrder (ws.set k y) T := by
  have hm := (h.mem k).2 ⟨hk, hl⟩
  cases S with
  | nil => cases hm
  | cons a T =>
    have hp := List.pairwise_cons.1 h.rise
    have ha := (h.mem a).1 List.mem_cons_self
    have hak : a = k := by
      rcases List.mem_cons.1 hm with e | hT
      · exact e.symm
      · have h1 := hp.1 k hT
        have h2 := hle a ha.1 ha.2
        omega
    subst hak
    refine ⟨T, rfl, order_without h hk hy (List.sublist_cons_self _ _) (fun i => ?_)⟩
    constructor
    · intro hi
      refine ⟨List.mem_cons_of_mem _ hi, fun e => ?_⟩
      subst e
      have := hp.1 i hi
      omega
    · rintro ⟨h1, h2⟩
      rcases List.mem_cons.1 h1 with e | h3
      · exact absurd e h2
      · exact h3
theorem less_right {ws : List Int} {S : List Nat} {k : Nat} {y : Int} (h : IsOrder ws S) (hk : k < ws.length) (hl : live ws k) (hle : ∀ j, j < ws.length → live ws j → wkey ws j ≤ wkey ws k) (hy : y % 4 = 2) : ∃ T, S = T ++ [k] ∧ IsOrder (ws.set k y) T := by
  have hm := (h.mem k).2 ⟨hk, hl⟩
  have hne : S ≠ [] := fun e => by rw [e] at hm; cases hm
  obtain ⟨T, a, rfl⟩ : ∃ T a, S = T ++ [a] := ⟨S.dropLast, S.getLast hne, (List.dropLast_concat_getLast hne).symm⟩
  have hp := List.pairwise_append.1 h.rise
  have ha := (h.mem a).1 (by simp)
  have hak : a = k := by
    rcases List.mem_append.1 hm with hT | e
    · have h1 := hp.2.2 k hT a (by simp)
      have h2 := hle a ha.1 ha.2
      omega
    · exact (List.mem_singleton.1 e).symm
  subst hak
  refine ⟨T, rfl, order_without h hk hy (List.sublist_append_left _ _) (fun i => ?_)⟩
  constructor
  · intro hi
    refine ⟨List.mem_append_left _ hi, fun e => ?_⟩
    subst e
    have := hp.2.2 i hi i (by simp)
    omega
  · rintro ⟨h1, h2⟩
    rcases List.mem_append.1 h1 with h3 | h3
    · exact h3
    · exact absurd (by simpa using h3) h2

/-- What is left of an order, if what stands at an end is taken. -/
def lessS (e : Int) (S : List Nat) : List Nat := if e = 0 then S.tail else S.dropLast
theorem order_less {ws : List Int} {S : List Nat} {e y : Int} {j : Nat} (h : IsOrder ws S) (hz : IsEnd ws e j) (hy : y % 4 = 2) :
    IsOrder (ws.set j y) (lessS e S) ∧ S.length = (lessS e S).length + 1 ∧ (e = 0 → S = j :: lessS e S) ∧ (e ≠ 0 → S = lessS e S ++ [j]) := by
  rcases hz with ⟨h1, _⟩ | ⟨i, h1, h2, h3, h4⟩
  · omega
  · obtain rfl : j = i := by omega
    unfold lessS
    by_cases he : e = 0
    · rw [if_pos he]
      obtain ⟨T, rfl, hT⟩ := less_left h h2 h3 (fun q a b => by have := h4 q a b; rwa [if_pos he] at this) hy
      exact ⟨hT, rfl, fun _ => rfl, fun h => absurd he h⟩
    · rw [if_neg he]
      obtain ⟨T, rfl, hT⟩ := less_right h h2 h3 (fun q a b => by have := h4 q a b; rwa [if_neg he] at this) hy
      rw [List.dropLast_concat]
      exact ⟨hT, by simp, fun h => absurd h he, fun _ => rfl⟩

end Go.Proofs.Yticphioeipbnmaa
