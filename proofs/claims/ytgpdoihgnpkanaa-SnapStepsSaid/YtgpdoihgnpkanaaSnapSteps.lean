/-
  Plain lemmas on snaps (as data): what a list of words read in this pass, and one of those read in the pass ahead, say of it. No Go. No condition.
-/
import Derived.Test.YtgpdoihgnpkanaaSnapPure2
namespace Go.Proofs.Ytgpdoihgnpkanaa
open Go.RowKit
set_option linter.unusedVariables false

/-- While it goes on: A is what was read in the pass ahead, B what was read last. -/
structure SRel (k : Sn) (N st n r P : Nat) (A B : List Int) : Prop where
  at' : SnAt k N st r P
  hn : n = P * N + r
  ph : k.ph = 0
  X : k.X = B
  tu : k.turned = decide (B ≠ A)
  un : ∀ q, r ≤ q → q < N → B.getD ((st + q) % N) 0 = A.getD ((st + q) % N) 0
  lenA : A.length = N

section
variable {k : Sn} {N st n r P : Nat} {A B C : List Int}

theorem SRel.lenB (h : SRel k N st n r P A B) : B.length = N := h.X ▸ h.at'.X

theorem list_eq_getD {A B : List Int} (hl : A.length = B.length) (h : ∀ j, j < A.length → A.getD j 0 = B.getD j 0) : A = B := by
  apply List.ext_getElem hl
  intro i h1 h2
  have := h i h1
  rw [List.getD_eq_getElem?_getD, List.getD_eq_getElem?_getD, List.getElem?_eq_getElem h1, List.getElem?_eq_getElem h2] at this
  exact this

/-- A word is read: is one of this pass another one than in the pass ahead? -/
theorem SRel.turn (h : SRel k N st n r P A B) (x : Int) : (k.turned || decide (x ≠ k.X.getD k.slot 0)) = decide (B.set k.slot x ≠ A) := by
  have hsl := h.at'.slot
  have hlt := h.at'.slot_lt
  have hB := h.lenB
  have hA := h.lenA
  have hu := h.un r (Nat.le_refl _) h.at'.r1
  rw [← hsl] at hu
  rw [h.tu, h.X]
  by_cases hx : x = B.getD k.slot 0
  · have hs : B.set k.slot x = B := by
      rw [hx]
      exact set_same (getD_at (by omega))
    rw [hs]
    simp [hx]
  · have hne : B.set k.slot x ≠ A := by
      intro e
      apply hx
      rw [hu, ← e, set_getD _ _ _ _ (by omega), if_pos rfl]
    rw [decide_eq_true hne, decide_eq_true hx, Bool.or_true]

theorem SRel.mid (h : SRel k N st n r P A B) (hr : r + 1 < N) : SRel (k.step C) N st (n + 1) (r + 1) P A (B.set k.slot (C.getD k.slot 0)) := by
  obtain ⟨m1, m2, m3, m4, m5⟩ := h.at'.mid (C := C) h.ph hr
  have hsl := h.at'.slot
  have hB := h.lenB
  have hlt := h.at'.slot_lt
  refine ⟨m1, by have := h.hn; omega, m2, by rw [m4, h.X], by rw [m5, h.turn], fun q hq hq2 => ?_, h.lenA⟩
  rw [set_getD _ _ _ _ (by omega), hsl, if_neg (slot_inj (by omega) hq2)]
  exact h.un q (by omega) hq2

theorem SRel.last (h : SRel k N st n r P A B) (hr : r + 1 = N) : SnAt (k.step C) N st 0 (P + 1) ∧ (k.step C).X = B.set k.slot (C.getD k.slot 0) ∧
    (k.step C).ph = (if 1 ≤ P ∧ B.set k.slot (C.getD k.slot 0) = A then 1 else 0) ∧ ((k.step C).ph = 0 → SRel (k.step C) N st (n + 1) 0 (P + 1) (B.set k.slot (C.getD k.slot 0)) (B.set k.slot (C.getD k.slot 0))) := by
  obtain ⟨m1, m3, m4, m6, m7⟩ := h.at'.last (C := C) h.ph hr
  have hX : (k.step C).X = B.set k.slot (C.getD k.slot 0) := by rw [m4, h.X]
  refine ⟨m1, hX, ?_, fun hp => ⟨m1, by have := h.hn; rw [Nat.add_mul]; omega, hp, hX, by rw [m6]; simp, fun _ _ _ => rfl, by rw [List.length_set]; exact h.lenB⟩⟩
  rw [m7, h.turn]
  by_cases hc : 1 ≤ P ∧ B.set k.slot (C.getD k.slot 0) = A
  · rw [if_pos hc, if_pos ⟨hc.1, by rw [hc.2]; simp⟩]
  · rw [if_neg hc, if_neg (fun h2 => hc ⟨h2.1, by have := h2.2; simpa using this⟩)]

theorem SRel.start (t s so d who : Int) (hs : st < N) : SRel (sn0 t s so d who st N) N st 0 0 0 (List.replicate N 0) (List.replicate N 0) :=
  ⟨sn0_at t s so d who N st hs, by omega, rfl, rfl, by simp [sn0], fun _ _ _ => rfl, List.length_replicate⟩

/-- Whether e words are as they were. -/
def eqs (A B : List Int) : Nat → Bool
  | 0 => true
  | e + 1 => eqs A B e && (A.getD e 0 == B.getD e 0)
theorem eqs_all : ∀ (e : Nat) (A B : List Int), eqs A B e = true ↔ ∀ j, j < e → A.getD j 0 = B.getD j 0
  | 0, _, _ => by simp [eqs]
  | e + 1, A, B => by
    simp only [eqs, Bool.and_eq_true, eqs_all e A B, beq_iff_eq]
    constructor
    · rintro ⟨h1, h2⟩ j hj
      rcases (by omega : j < e ∨ j = e) with h | rfl
      · exact h1 j h
      · exact h2
    · exact fun h => ⟨fun j hj => h j (by omega), h e (by omega)⟩
theorem eqs_len {A B : List Int} {N : Nat} (hA : A.length = N) (hB : B.length = N) : eqs A B N = decide (A = B) := by
  by_cases h : A = B
  · rw [h]
    simp only [decide_true]
    exact (eqs_all N B B).2 fun _ _ => rfl
  · rw [decide_eq_false h]
    cases he : eqs A B N with
    | false => rfl
    | true => exact absurd (list_eq_getD (hA.trans hB.symm) (fun j hj => (eqs_all N A B).1 he j (by omega))) h

/-- The first e words of B, the others of A. -/
def part (A B : List Int) (e : Nat) : List Int := B.take e ++ A.drop e
theorem part_0 : part A B 0 = A := by simp [part]
theorem part_all (hA : A.length = N) (hB : B.length = N) : part A B N = B := by
  unfold part
  rw [List.drop_of_length_le (by omega), List.append_nil, List.take_of_length_le (by omega)]
theorem part_len (hA : A.length = N) (hB : B.length = N) {e : Nat} (he : e ≤ N) : (part A B e).length = N := by
  unfold part
  rw [List.length_append, List.length_take, List.length_drop]
  omega
theorem part_at (hA : A.length = N) (hB : B.length = N) {e : Nat} (he : e < N) : (part A B e).getD e 0 = A.getD e 0 := by
  unfold part
  rw [List.getD_eq_getElem?_getD, List.getElem?_append_right (by rw [List.length_take]; omega), List.length_take, List.getElem?_drop, ← List.getD_eq_getElem?_getD]
  congr 1
  omega
theorem part_step (hA : A.length = N) (hB : B.length = N) {e : Nat} (he : e < N) : (part A B e).set e (B.getD e 0) = part A B (e + 1) := by
  have h1 := part_len hA hB (e := e) (by omega)
  have h2 := part_len hA hB (e := e + 1) (by omega)
  refine list_eq_getD (by rw [List.length_set, h1, h2]) (fun j hj => ?_)
  rw [List.length_set, h1] at hj
  rw [set_getD _ _ _ _ (by omega)]
  have val : ∀ m, m ≤ N → (part A B m).getD j 0 = if j < m then B.getD j 0 else A.getD j 0 := by
    intro m hm
    unfold part
    rw [List.getD_eq_getElem?_getD]
    split
    · rename_i h
      rw [List.getElem?_append_left (by rw [List.length_take]; omega), List.getElem?_take_of_lt h, ← List.getD_eq_getElem?_getD]
    · rename_i h
      rw [List.getElem?_append_right (by rw [List.length_take]; omega), List.length_take, List.getElem?_drop, ← List.getD_eq_getElem?_getD]
      congr 1
      omega
  rw [val e (by omega), val (e + 1) (by omega)]
  by_cases h : e = j
  · subst h
    rw [if_pos rfl, if_pos (by omega)]
  · rw [if_neg h]
    by_cases h2 : j < e
    · rw [if_pos h2, if_pos (by omega)]
    · rw [if_neg h2, if_neg (by omega)]
end

end Go.Proofs.Ytgpdoihgnpkanaa
