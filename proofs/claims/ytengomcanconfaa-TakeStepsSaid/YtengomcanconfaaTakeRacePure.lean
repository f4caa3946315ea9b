/-
  Plain lemmas: takes of one place by several threads, beside each other: at most one wins, and just one where all are over. And what a call holds that has them in a row. No condition.
-/
import Derived.Test.YtengomcanconfaaTakeEqs
namespace Go.Proofs.Ytengomcanconfaa
open Go.RowKit
set_option linter.unusedVariables false

def Won (k : Ta) : Prop := (k.ph = 0 ∧ k.next = 4 ∧ k.lost = false) ∨ k.ph = 1
def Fresh (k : Ta) : Prop := k.ph = 0 ∧ k.next ≤ 3 ∧ k.lost = false
/-- A take behind r rounds. -/
def Far (r : Nat) (k : Ta) : Prop := k.ph ≠ 0 ∨ (r : Int) ≤ k.next
/-- What is known of one; hv is what its thread's Hazard holds. -/
def LocR (x hv : Int) (k : Ta) : Prop :=
  (k.ph = 0 ∧ (k.next = 3 ∨ (k.next = 4 ∧ k.lost = false) → k.value = x)) ∨ (((k.ph = 1 ∧ k.value = x) ∨ k.ph = 2) ∧ hv = 0)

structure OneStep (t : Nat) (x : Int) (i : Nat) (k k' : Ta) (C C' : List Int) : Prop where
  len : C'.length = C.length
  vx : C'.getD t 0 = C.getD t 0
  oth : ∀ e, e ≠ i → C'.getD (2 * t + e) 0 = C.getD (2 * t + e) 0
  loc : LocR x (C'.getD (2 * t + i) 0) k'
  old : C.getD 0 0 = 25 → Fresh k → (C'.getD 0 0 = 25 ∧ Fresh k') ∨ (C'.getD 0 0 = 26 ∧ Won k')
  gone : C.getD 0 0 = 26 → C'.getD 0 0 = 26 ∧ (Won k' ↔ Won k)
  far : ∀ r, Far r k → Far (r + 1) k'
  same : k.Same k'

theorem one_step {t i : Nat} {x : Int} {k : Ta} {C : List Int} (ht : 1 ≤ t) (hi : i < t) (hl : C.length = 4 * t) (hk : k.Ok t 0 t (2 * t + i) C) (hw : k.word = 25) (hx : C.getD t 0 = x) (h : LocR x (C.getD (2 * t + i) 0) k) :
    OneStep t x i k (k.go 0 t C) C (k.cells 0 (2 * t + i) C) := by
  have hs := k.go_same 0 t C
  have a1 : (2 * t + i) ≠ t := by omega
  have a2 : (2 * t + i) ≠ 0 := by omega
  have a3 : (0 : Nat) ≠ t := by omega
  have a4 : ∀ e, e ≠ i → (2 * t + i) ≠ 2 * t + e := fun e he => by omega
  have a5 : ∀ e, (0 : Nat) ≠ 2 * t + e := fun e => by omega
  have l1 : 2 * t + i < C.length := by omega
  have l0 : 0 < C.length := by omega
  have t25 : tkW 25 = 26 := by decide
  rcases h with ⟨hp, hv⟩ | ⟨h, hz⟩
  · rcases hk.st hp with ⟨hn, hlo⟩ | ⟨hn, hlo⟩ | ⟨hn, hlo⟩ | ⟨hn, hlo⟩ | hn
    · obtain ⟨e1, e2, _⟩ := go_0 (j := 0) (jv := t) (hz := 2 * t + i) (C := C) hp hn
      rw [e1] at hs
      rw [e1, e2]
      refine ⟨by simp, getD_set_ne' _ a1, fun e he => getD_set_ne' _ (a4 e he), .inl ⟨hp, fun h => ?_⟩, fun h0 hf => .inl ⟨by rw [getD_set_ne' _ a2]; exact h0, hp, ?_, hlo⟩, fun h0 => ⟨by rw [getD_set_ne' _ a2]; exact h0, ?_⟩, fun r hr => ?_, hs⟩
      · exact absurd h (by show ¬ ((1 : Int) = 3 ∨ ((1 : Int) = 4 ∧ _)); omega)
      · show (1 : Int) ≤ 3; omega
      · constructor
        · rintro (⟨_, h, _⟩ | h)
          · exact absurd h (by show ¬ (1 : Int) = 4; omega)
          · exact absurd h (by show ¬ k.ph = 1; omega)
        · rintro (⟨_, h, _⟩ | h) <;> omega
      · rcases hr with h | h
        · exact absurd hp h
        · exact .inr (by show ((r + 1 : Nat) : Int) ≤ 1; omega)
    · by_cases hc : C.getD 0 0 = k.word
      · obtain ⟨e1, e2, _⟩ := go_1y (j := 0) (jv := t) (hz := 2 * t + i) (C := C) hp hn hc
        rw [e1] at hs
        rw [e1, e2]
        refine ⟨rfl, rfl, fun e he => rfl, .inl ⟨hp, fun h => ?_⟩, fun h0 hf => .inl ⟨h0, hp, ?_, hlo⟩, fun h0 => ?_, fun r hr => ?_, hs⟩
        · exact absurd h (by show ¬ ((2 : Int) = 3 ∨ ((2 : Int) = 4 ∧ _)); omega)
        · show (2 : Int) ≤ 3; omega
        · rw [hw] at hc; omega
        · rcases hr with h | h
          · exact absurd hp h
          · exact .inr (by show ((r + 1 : Nat) : Int) ≤ 2; omega)
      · obtain ⟨e1, e2, _⟩ := go_1n (j := 0) (jv := t) (hz := 2 * t + i) (C := C) hp hn hc
        rw [e1] at hs
        rw [e1, e2]
        refine ⟨rfl, rfl, fun e he => rfl, .inl ⟨hp, fun h => ?_⟩, fun h0 hf => ?_, fun h0 => ⟨h0, ?_⟩, fun r hr => ?_, hs⟩
        · exact absurd h (by show ¬ ((4 : Int) = 3 ∨ ((4 : Int) = 4 ∧ true = false)); simp)
        · rw [hw] at hc; exact absurd h0 hc
        · constructor
          · rintro (⟨_, _, h⟩ | h)
            · cases h
            · exact absurd h (by show ¬ k.ph = 1; omega)
          · rintro (⟨_, h, _⟩ | h) <;> omega
        · rcases hr with h | h
          · exact absurd hp h
          · exact .inr (by show ((r + 1 : Nat) : Int) ≤ 4; omega)
    · obtain ⟨e1, e2, _⟩ := go_2 (j := 0) (jv := t) (hz := 2 * t + i) (C := C) hp hn
      rw [e1] at hs
      rw [e1, e2]
      refine ⟨rfl, rfl, fun e he => rfl, .inl ⟨hp, fun h => hx⟩, fun h0 hf => .inl ⟨h0, hp, ?_, hlo⟩, fun h0 => ⟨h0, ?_⟩, fun r hr => ?_, hs⟩
      · show (3 : Int) ≤ 3; omega
      · constructor
        · rintro (⟨_, h, _⟩ | h)
          · exact absurd h (by show ¬ (3 : Int) = 4; omega)
          · exact absurd h (by show ¬ k.ph = 1; omega)
        · rintro (⟨_, h, _⟩ | h) <;> omega
      · rcases hr with h | h
        · exact absurd hp h
        · exact .inr (by show ((r + 1 : Nat) : Int) ≤ 3; omega)
    · have hvx : k.value = x := hv (.inl hn)
      by_cases hc : C.getD 0 0 = k.word
      · obtain ⟨e1, e2, _⟩ := go_3y (j := 0) (jv := t) (hz := 2 * t + i) (C := C) hp hn hc
        rw [e1] at hs
        rw [e1, e2]
        refine ⟨by simp, getD_set_ne' _ a3, fun e he => getD_set_ne' _ (a5 e), .inl ⟨hp, fun h => hvx⟩, fun h0 hf => .inr ⟨by rw [getD_set_eq' _ l0, hw, t25], .inl ⟨hp, rfl, hlo⟩⟩, fun h0 => ?_, fun r hr => ?_, hs⟩
        · rw [hw] at hc; omega
        · rcases hr with h | h
          · exact absurd hp h
          · exact .inr (by show ((r + 1 : Nat) : Int) ≤ 4; omega)
      · obtain ⟨e1, e2, _⟩ := go_3n (j := 0) (jv := t) (hz := 2 * t + i) (C := C) hp hn hc
        rw [e1] at hs
        rw [e1, e2]
        refine ⟨rfl, rfl, fun e he => rfl, .inl ⟨hp, fun h => hvx⟩, fun h0 hf => ?_, fun h0 => ⟨h0, ?_⟩, fun r hr => ?_, hs⟩
        · rw [hw] at hc; exact absurd h0 hc
        · constructor
          · rintro (⟨_, _, h⟩ | h)
            · cases h
            · exact absurd h (by show ¬ k.ph = 1; omega)
          · rintro (⟨_, h, _⟩ | h) <;> omega
        · rcases hr with h | h
          · exact absurd hp h
          · exact .inr (by show ((r + 1 : Nat) : Int) ≤ 4; omega)
    · cases hlo : k.lost with
      | false =>
        obtain ⟨e1, e2, _⟩ := go_4y (j := 0) (jv := t) (hz := 2 * t + i) (C := C) hp hn hlo
        rw [e1] at hs
        rw [e1, e2]
        refine ⟨by simp, getD_set_ne' _ a1, fun e he => getD_set_ne' _ (a4 e he), .inr ⟨.inl ⟨rfl, hv (.inr ⟨hn, hlo⟩)⟩, getD_set_eq' _ l1⟩, fun h0 hf => ?_, fun h0 => ⟨by rw [getD_set_ne' _ a2]; exact h0, ?_⟩, fun r hr => .inl (by show (1 : Int) ≠ 0; omega), hs⟩
        · have := hf.2.1; omega
        · exact ⟨fun _ => .inl ⟨hp, hn, hlo⟩, fun _ => .inr rfl⟩
      | true =>
        obtain ⟨e1, e2, _⟩ := go_4n (j := 0) (jv := t) (hz := 2 * t + i) (C := C) hp hn hlo
        rw [e1] at hs
        rw [e1, e2]
        refine ⟨by simp, getD_set_ne' _ a1, fun e he => getD_set_ne' _ (a4 e he), .inr ⟨.inr rfl, getD_set_eq' _ l1⟩, fun h0 hf => ?_, fun h0 => ⟨by rw [getD_set_ne' _ a2]; exact h0, ?_⟩, fun r hr => .inl (by show (2 : Int) ≠ 0; omega), hs⟩
        · have := hf.2.1; omega
        · constructor
          · rintro (⟨h, _⟩ | h)
            · exact absurd h (by show ¬ (2 : Int) = 0; omega)
            · exact absurd h (by show ¬ (2 : Int) = 1; omega)
          · rintro (⟨_, _, h⟩ | h)
            · rw [hlo] at h; cases h
            · omega
  · have hp : k.ph ≠ 0 := by omega
    obtain ⟨e1, e2, _⟩ := go_rest (j := 0) (jv := t) (hz := 2 * t + i) (C := C) hp
    rw [e1] at hs
    rw [e1, e2]
    exact ⟨rfl, rfl, fun e he => rfl, .inr ⟨h, hz⟩, fun h0 hf => absurd hf.1 hp, fun h0 => ⟨h0, Iff.rfl⟩, fun r hr => .inl hp, hs⟩

theorem Ta.Ok.cells {k : Ta} {n : Int} {j jv hz : Nat} {C C' : List Int} (h : k.Ok n j jv hz C) (hC : C'.length = C.length) : k.Ok n j jv hz C' :=
  ⟨h.lay, by rw [hC]; exact h.len, h.w0, h.w1, h.s0, h.s1, h.hj, h.hjv, h.hhz, h.x0, h.x1, h.st⟩

/-- All of them; their blocks beside them. -/
structure Race (t : Nat) (x : Int) (m : Nat) (C : List Int) (Ks : List (Nat × Ta)) : Prop where
  len : Ks.length = m
  le : m ≤ t
  t1 : 1 ≤ t
  cl : C.length = 4 * t
  vx : C.getD t 0 = x
  ok : ∀ (i b : Nat) (k : Ta), Ks[i]? = some (b, k) → k.Ok t 0 t (2 * t + i) C
  wd : ∀ (i b : Nat) (k : Ta), Ks[i]? = some (b, k) → k.word = 25
  loc : ∀ (i b : Nat) (k : Ta), Ks[i]? = some (b, k) → LocR x (C.getD (2 * t + i) 0) k
  all : (C.getD 0 0 = 25 ∧ ∀ (i b : Nat) (k : Ta), Ks[i]? = some (b, k) → Fresh k) ∨ (C.getD 0 0 = 26 ∧ ∃ i0, i0 < m ∧ ∀ (i b : Nat) (k : Ta), Ks[i]? = some (b, k) → (Won k ↔ i = i0))

theorem kset_cases {Ks : List (Nat × Ta)} {i e : Nat} {x y z : Nat × Ta} (hi : Ks[i]? = some x) (he : (Ks.set i y)[e]? = some z) : (e = i ∧ z = y) ∨ (e ≠ i ∧ Ks[e]? = some z) := by
  rw [List.getElem?_set] at he
  by_cases h : i = e
  · subst h
    rw [if_pos rfl, if_pos (List.getElem?_eq_some_iff.1 hi).1] at he
    exact .inl ⟨rfl, (Option.some.inj he).symm⟩
  · rw [if_neg h] at he
    exact .inr ⟨fun e => h e.symm, he⟩

section
variable {t m i b : Nat} {x : Int} {k : Ta} {C : List Int} {Ks : List (Nat × Ta)}
theorem Race.one (h : Race t x m C Ks) (hi : Ks[i]? = some (b, k)) : OneStep t x i k (k.go 0 t C) C (k.cells 0 (2 * t + i) C) :=
  one_step h.t1 (by have := (List.getElem?_eq_some_iff.1 hi).1; have := h.len; have := h.le; omega) h.cl (h.ok i b k hi) (h.wd i b k hi) h.vx (h.loc i b k hi)
theorem Race.step (h : Race t x m C Ks) (hi : Ks[i]? = some (b, k)) : Race t x m (k.cells 0 (2 * t + i) C) (Ks.set i (b, k.go 0 t C)) := by
  have s := h.one hi
  have him := (List.getElem?_eq_some_iff.1 hi).1
  refine ⟨by rw [List.length_set]; exact h.len, h.le, h.t1, s.len.trans h.cl, s.vx.trans h.vx, fun e b' k' he => ?_, fun e b' k' he => ?_, fun e b' k' he => ?_, ?_⟩
  · rcases kset_cases hi he with ⟨rfl, hz⟩ | ⟨hne, he⟩
    · cases hz
      exact (h.ok _ b k hi).next s.len
    · exact (h.ok e b' k' he).cells s.len
  · rcases kset_cases hi he with ⟨rfl, hz⟩ | ⟨hne, he⟩
    · cases hz
      exact s.same.word.trans (h.wd _ b k hi)
    · exact h.wd e b' k' he
  · rcases kset_cases hi he with ⟨rfl, hz⟩ | ⟨hne, he⟩
    · cases hz
      exact s.loc
    · rw [s.oth e hne]
      exact h.loc e b' k' he
  · rcases h.all with ⟨h0, ha⟩ | ⟨h0, i0, hi0, ha⟩
    · rcases s.old h0 (ha i b k hi) with ⟨h1, hf⟩ | ⟨h1, hw⟩
      · refine .inl ⟨h1, fun e b' k' he => ?_⟩
        rcases kset_cases hi he with ⟨rfl, hz⟩ | ⟨hne, he⟩
        · cases hz
          exact hf
        · exact ha e b' k' he
      · refine .inr ⟨h1, i, by have := h.len; omega, fun e b' k' he => ?_⟩
        rcases kset_cases hi he with ⟨rfl, hz⟩ | ⟨hne, he⟩
        · cases hz
          exact ⟨fun _ => rfl, fun _ => hw⟩
        · have hf := ha e b' k' he
          refine ⟨fun hh => ?_, fun hh => absurd hh hne⟩
          rcases hh with ⟨_, hn, _⟩ | hn
          · have := hf.2.1; omega
          · have := hf.1; omega
    · obtain ⟨h1, hw⟩ := s.gone h0
      refine .inr ⟨h1, i0, hi0, fun e b' k' he => ?_⟩
      rcases kset_cases hi he with ⟨rfl, hz⟩ | ⟨hne, he⟩
      · cases hz
        exact hw.trans (ha _ b k hi)
      · exact ha e b' k' he

theorem Race.start (ht : 1 ≤ t) (hl : C.length = 4 * t) (hx : C.getD t 0 = x) (h0 : C.getD 0 0 = 25) : Race t x 0 C [] :=
  ⟨rfl, by omega, ht, hl, hx, fun i b k h => by simp at h, fun i b k h => by simp at h, fun i b k h => by simp at h, .inl ⟨h0, fun i b k h => by simp at h⟩⟩
theorem Race.more (h : Race t x m C Ks) (h0 : C.getD 0 0 = 25) (hm : m < t) (h4 : t ≤ 4) : Race t x (m + 1) C (Ks ++ [(b, ta0 t 1 0 0 m 0 25)]) := by
  have ht := h.t1
  have hl := h.len
  have cs : ∀ (i : Nat) (z : Nat × Ta), (Ks ++ [(b, ta0 t 1 0 0 m 0 25)])[i]? = some z → Ks[i]? = some z ∨ (i = m ∧ z = (b, ta0 t 1 0 0 m 0 25)) := by
    intro i z hi
    rcases Nat.lt_or_ge i Ks.length with hl2 | hl2
    · rw [List.getElem?_append_left hl2] at hi
      exact .inl hi
    · rw [List.getElem?_append_right hl2] at hi
      rcases (by omega : i - Ks.length = 0 ∨ 1 ≤ i - Ks.length) with h1 | h1
      · rw [h1] at hi
        exact .inr ⟨by omega, (Option.some.inj hi).symm⟩
      · rw [List.getElem?_eq_none (by simpa using h1)] at hi
        cases hi
  have hlay : Lay (t : Int) 1 t := ⟨by omega, by omega, by omega, by omega, by omega, by omega, by omega, by omega⟩
  have fresh : Fresh (ta0 t 1 0 0 m 0 25) := ⟨rfl, by show (0 : Int) ≤ 3; omega, rfl⟩
  refine ⟨by rw [List.length_append, hl]; rfl, by omega, ht, h.cl, h.vx, fun i b' k' hi => ?_, fun i b' k' hi => ?_, fun i b' k' hi => ?_, .inl ⟨h0, fun i b' k' hi => ?_⟩⟩
  · rcases cs i _ hi with hi | ⟨rfl, hz⟩
    · exact h.ok i b' k' hi
    · cases hz
      exact ⟨hlay, by show (C.length : Int) = 2 * (t : Int) + 2 * (t : Int); rw [h.cl]; omega, by show (0 : Int) ≤ (i : Int); omega, by show (i : Int) < (t : Int); omega, by show (0 : Int) ≤ 0; omega, by show (0 : Int) < (t : Int); omega, rfl, by show (t : Int) + 0 = (t : Int); omega, by show 2 * (t : Int) + (i : Int) = ((2 * t + i : Nat) : Int); omega, by show (0 : Int) ≤ 25; omega, by show (25 : Int) ≤ 18446744073709551615; omega, fun _ => .inl ⟨rfl, rfl⟩⟩
  · rcases cs i _ hi with hi | ⟨rfl, hz⟩
    · exact h.wd i b' k' hi
    · cases hz
      rfl
  · rcases cs i _ hi with hi | ⟨rfl, hz⟩
    · exact h.loc i b' k' hi
    · cases hz
      exact .inl ⟨rfl, fun hh => absurd hh (by show ¬ ((0 : Int) = 3 ∨ ((0 : Int) = 4 ∧ _)); omega)⟩
  · rcases cs i _ hi with hi | ⟨rfl, hz⟩
    · rcases h.all with ⟨_, ha⟩ | ⟨h1, _⟩
      · exact ha i b' k' hi
      · omega
    · cases hz
      exact fresh

/-- Within round r, ahead of the i-th. -/
def FarAll (r i : Nat) (Ks : List (Nat × Ta)) : Prop := ∀ (e b : Nat) (k : Ta), Ks[e]? = some (b, k) → (e < i → Far (r + 1) k) ∧ (i ≤ e → Far r k)
theorem FarAll.start : FarAll 0 0 Ks ↔ ∀ (e b : Nat) (k : Ta), Ks[e]? = some (b, k) → Far 0 k :=
  ⟨fun h e b k he => (h e b k he).2 (Nat.zero_le _), fun h e b k he => ⟨fun hh => absurd hh (by omega), fun _ => h e b k he⟩⟩
theorem FarAll.step {r : Nat} (h : FarAll r i Ks) (hr : Race t x m C Ks) (hi : Ks[i]? = some (b, k)) : FarAll r (i + 1) (Ks.set i (b, k.go 0 t C)) := by
  intro e b' k' he
  rcases kset_cases hi he with ⟨rfl, hz⟩ | ⟨hne, he⟩
  · cases hz
    exact ⟨fun _ => (hr.one hi).far r ((h _ b k hi).2 (Nat.le_refl _)), fun hh => absurd hh (by omega)⟩
  · exact ⟨fun hh => (h e b' k' he).1 (by omega), fun hh => (h e b' k' he).2 (by omega)⟩
theorem FarAll.next {r : Nat} (h : FarAll r Ks.length Ks) : FarAll (r + 1) 0 Ks := fun e b k he =>
  ⟨fun hh => absurd hh (by omega), fun _ => (h e b k he).1 (List.getElem?_eq_some_iff.1 he).1⟩
theorem Race.far0 (h : Race t x m C Ks) : FarAll 0 0 Ks := FarAll.start.2 fun e b k he => by
  by_cases hp : k.ph = 0
  · have := (h.ok e b k he).st hp
    exact .inr (by omega)
  · exact .inl hp

/-- All are over: just one has won. -/
theorem Race.over (h : Race t x m C Ks) (hf : FarAll 6 0 Ks) (hm : 1 ≤ m) : C.getD 0 0 = 26 ∧ ∃ i0, i0 < m ∧ ∀ (i b : Nat) (k : Ta), Ks[i]? = some (b, k) → C.getD (2 * t + i) 0 = 0 ∧ ((i = i0 ∧ k.ph = 1 ∧ k.value = x) ∨ (i ≠ i0 ∧ k.ph = 2)) := by
  have hp : ∀ (i b : Nat) (k : Ta), Ks[i]? = some (b, k) → k.ph ≠ 0 := fun i b k hi hp => by
    have := (h.ok i b k hi).st hp
    rcases (hf i b k hi).2 (Nat.zero_le _) with h1 | h1
    · exact h1 hp
    · omega
  rcases h.all with ⟨_, ha⟩ | ⟨h0, i0, hi0, ha⟩
  · have hl : 0 < Ks.length := by have := h.len; omega
    have h1 := List.getElem?_eq_getElem hl
    exact absurd (ha 0 _ _ h1).1 (hp 0 _ _ h1)
  · refine ⟨h0, i0, hi0, fun i b k hi => ?_⟩
    have hpi := hp i b k hi
    rcases h.loc i b k hi with ⟨h1, _⟩ | ⟨h1, h2⟩
    · exact absurd h1 hpi
    · refine ⟨h2, ?_⟩
      have hw := ha i b k hi
      rcases h1 with ⟨h1, hv⟩ | h1
      · exact .inl ⟨hw.1 (.inr h1), h1, hv⟩
      · refine .inr ⟨fun hh => ?_, h1⟩
        rcases hw.2 hh with ⟨h3, _⟩ | h3 <;> omega
end

/-- Cells, the row of pointers, and the takes. -/
def RaceHold (W w : World) (e : TypeId) (p c : Nat) (v : Value) (C : List Int) (L : List Ev) (va : Value) (Ks : List (Nat × Ta)) : Prop :=
  Hold W w (tMem W.heap.size p c v C L :: tRow W.heap.size e 1 va Ks.length (Ks.map fun x => pt x.1) :: Ks.map fun x => tObj W.heap.size x.1 x.2.list)

section
variable {W w w' : World} {e : TypeId} {p c : Nat} {v v' va va' : Value} {C C' : List Int} {L L' : List Ev} {Ks : List (Nat × Ta)} {i b : Nat} {k : Ta}
theorem RaceHold.mem (h : RaceHold W w e p c v C L va Ks) : IsMem W.heap.size w p c v C L := Hold.has h 0 _ rfl
theorem RaceHold.row (h : RaceHold W w e p c v C L va Ks) : w.ownsRow W.heap.size e 1 va Ks.length (Ks.map fun x => pt x.1) := Hold.has h 1 _ rfl
theorem RaceHold.later (h : RaceHold W w e p c v C L va Ks) (hb : Below w.heap.size w w') : RaceHold W w' e p c v C L va Ks := Hold.later h hb
theorem RaceHold.size (h : RaceHold W w e p c v C L va Ks) : W.heap.size ≤ w.heap.size := Hold.size h
theorem RaceHold.below (h : RaceHold W w e p c v C L va Ks) : Below W.heap.size W w := Hold.below h
theorem RaceHold.key (hi : Ks[i]? = some (b, k)) : (tMem W.heap.size p c v C L :: tRow W.heap.size e 1 va Ks.length (Ks.map fun x => pt x.1) :: Ks.map fun x => tObj W.heap.size x.1 x.2.list)[i + 2]? = some (tObj W.heap.size b k.list) := by
  show (Ks.map fun x => tObj W.heap.size x.1 x.2.list)[i]? = _
  rw [List.getElem?_map, hi]
  rfl
theorem RaceHold.obj (h : RaceHold W w e p c v C L va Ks) (hi : Ks[i]? = some (b, k)) : IsObj w b k.list := (Hold.has h (i + 2) _ (RaceHold.key hi)).1
theorem RaceHold.cell (h : RaceHold W w e p c v C L va Ks) (hi : Ks[i]? = some (b, k)) : ∃ g cap, va = .slice (some ⟨g, 0, none⟩) Ks.length cap ∧ Ks.length ≤ cap ∧ w.cell? ⟨g, i, none⟩ = some (pt b) := by
  have hl := (List.getElem?_eq_some_iff.1 hi).1
  obtain ⟨g, cap, rfl, hc, _⟩ := row_shape h.row (by omega)
  refine ⟨g, cap, rfl, hc, ?_⟩
  rw [h.row.cellAt i (by simpa using hl), List.getElem?_map, hi]
  rfl
theorem RaceHold.at' {g n cap : Nat} (h : RaceHold W w e p c v C L (.slice (some ⟨g, 0, none⟩) n cap) Ks) (hi : Ks[i]? = some (b, k)) : w.cell? ⟨g, i, none⟩ = some (pt b) := by
  obtain ⟨g', cap', he, _, hc⟩ := h.cell hi
  cases he
  exact hc
/-- As it begins. -/
theorem RaceHold.start (h : Hold W w [tMem W.heap.size p c v C L]) : RaceHold W (w.alloc (.cells #[] e)) e p c v C L (.slice (some ⟨w.heap.size, 0, none⟩) 0 0) [] :=
  Hold.more h (below_new (Below.refl _ _) _) (tRow_ok _ _ _ _ _ _) (tRow_made w W.heap.size e 1 h.size) tRow_new
/-- A step of the i-th. -/
theorem RaceHold.call {n : Int} {j jv hz : Nat} (h : RaceHold W w e p c v C L va Ks) (hi : Ks[i]? = some (b, k)) (hk : k.Ok n j jv hz C) (hL : L.length < 1000000000) :
    Calls Try.prog 20 #[pt b, pt p] w fun r w' => r = .returned (i64 (k.go j jv C).ph) ∧ ∃ v', RaceHold W w' e p c v' (k.cells j hz C) (L ++ k.ev j jv hz C) va (Ks.set i (b, k.go j jv C)) :=
  (tastep_any W.heap.size w b p c v C L k n j jv hz hk (h.obj hi) h.mem (Hold.free h 0 (i + 2) (by omega) rfl (RaceHold.key hi) b rfl) h.size hL).mono fun r w' ⟨hr, v', hd, hs⟩ =>
    ⟨hr, v', by
      have hH := Hold.does h 0 (i + 2) (by omega) rfl (RaceHold.key hi) hd (tObj_ok W.heap.size b (k.go j jv C).list) ⟨hs, (Hold.has h (i + 2) _ (RaceHold.key hi)).2⟩ (fun q hq => hq)
      unfold RaceHold
      have e1 : (Ks.set i (b, k.go j jv C)).map (fun x => pt x.1) = Ks.map fun x => pt x.1 := by
        rw [List.map_set]
        exact List.ext_getElem? fun q => by
          rw [List.getElem?_set]
          split
          · rename_i hq
            subst hq
            rw [List.getElem?_map, hi]
            have := (List.getElem?_eq_some_iff.1 hi).1
            simp [this]
          · rfl
      rw [e1, List.length_set, List.map_set]
      exact hH⟩
/-- One more. -/
theorem RaceHold.more {w1 w2 : World} (h : RaceHold W w e p c v C L va Ks) (e1 : Below w.heap.size w w1) (hk : IsObj w1 b k.list) (hb : w.heap.size ≤ b) (e2 : Below w1.heap.size w1 w2) {w3 : World}
    (g : Grew w2 w3 W.heap.size e 1 va va' (Ks.length + 1) ((Ks.map fun x => pt x.1) ++ [pt b])) : RaceHold W w3 e p c v C L va' (Ks ++ [(b, k)]) := by
  have h1 : Hold W w1 _ := Hold.more h e1 (tObj_ok W.heap.size b k.list) ⟨hk, Nat.le_trans h.size hb⟩ (fun q hq => by cases hq; exact hb)
  have h2 := Hold.append (h1.later e2) 1 rfl (by rfl) g
  unfold RaceHold
  rw [List.length_append, List.map_append, List.map_append]
  exact h2
end
end Go.Proofs.Ytengomcanconfaa
