/-
  Plain lemmas on snaps (as data): what a step does; when a snap is done. No Go. No condition.
-/
import Derived.Test.YticphioeipbnmaaSnapStep
namespace Go.Proofs.Yticphioeipbnmaa
open Go.RowKit
set_option linter.unusedVariables false

/-- How far it is, in natural numbers. -/
structure SnAt (k : Sn) (N st r P : Nat) : Prop where
  hN : k.N = N
  start : k.start = (st : Int)
  read : k.read = (r : Int)
  passes : k.passes = (P : Int)
  X : k.X.length = N
  s1 : st < N
  r1 : r < N

/-- What a step never turns. -/
def SnSame (k k' : Sn) : Prop := k'.t = k.t ∧ k'.s = k.s ∧ k'.so = k.so ∧ k'.d = k.d ∧ k'.who = k.who
theorem SnSame.trans {a b c : Sn} (h : SnSame a b) (h' : SnSame b c) : SnSame a c :=
  ⟨h'.1.trans h.1, h'.2.1.trans h.2.1, h'.2.2.1.trans h.2.2.1, h'.2.2.2.1.trans h.2.2.2.1, h'.2.2.2.2.trans h.2.2.2.2⟩

section
variable {k : Sn} {N st r P : Nat} {C : List Int}

theorem SnAt.slot (h : SnAt k N st r P) : k.slot = (st + r) % N := by
  unfold Sn.slot
  rw [h.hN, h.start, h.read, ← Int.natCast_add, ← Int.natCast_emod, Int.toNat_natCast]
theorem SnAt.slot_lt (h : SnAt k N st r P) : k.slot < N := by
  rw [h.slot]
  exact Nat.mod_lt _ (by have := h.r1; omega)

theorem slot_inj {N st r q : Nat} (h : r < q) (hq : q < N) : (st + r) % N ≠ (st + q) % N := by
  intro e
  have := Nat.sub_mod_eq_zero_of_mod_eq e.symm
  rw [show st + q - (st + r) = q - r by omega, Nat.mod_eq_of_lt (by omega)] at this
  omega
theorem slot_sur {N st j : Nat} (hs : st < N) (hj : j < N) : ∃ q, q < N ∧ (st + q) % N = j := by
  by_cases h : st ≤ j
  · exact ⟨j - st, by omega, by rw [show st + (j - st) = j by omega, Nat.mod_eq_of_lt hj]⟩
  · exact ⟨j + N - st, by omega, by rw [show st + (j + N - st) = j + N by omega, Nat.add_mod_right, Nat.mod_eq_of_lt hj]⟩

theorem SnAt.mid (h : SnAt k N st r P) (hp : k.ph = 0) (hr : r + 1 < N) :
    SnAt (k.step C) N st (r + 1) P ∧ (k.step C).ph = 0 ∧ SnSame k (k.step C) ∧ (k.step C).X = k.X.set k.slot (C.getD k.slot 0) ∧ (k.step C).turned = (k.turned || decide (C.getD k.slot 0 ≠ k.X.getD k.slot 0)) := by
  have hN := h.hN
  have hr2 := h.read
  have e : k.step C = k.put (C.getD k.slot 0) := by
    unfold Sn.step
    rw [if_pos hp, if_neg (by omega)]
  rw [e]
  exact ⟨⟨h.hN, h.start, by show k.read + 1 = _; omega, h.passes, by show (k.X.set _ _).length = N; rw [List.length_set]; exact h.X, h.s1, hr⟩, hp, ⟨rfl, rfl, rfl, rfl, rfl⟩, rfl, rfl⟩

theorem SnAt.last (h : SnAt k N st r P) (hp : k.ph = 0) (hr : r + 1 = N) :
    SnAt (k.step C) N st 0 (P + 1) ∧ SnSame k (k.step C) ∧ (k.step C).X = k.X.set k.slot (C.getD k.slot 0) ∧ (k.step C).turned = false ∧
      (k.step C).ph = if 1 ≤ P ∧ (k.turned || decide (C.getD k.slot 0 ≠ k.X.getD k.slot 0)) = false then 1 else 0 := by
  have hN := h.hN
  have hr2 := h.read
  have hP := h.passes
  have e : k.step C = (k.put (C.getD k.slot 0)).fin := by
    unfold Sn.step
    rw [if_pos hp, if_pos (by omega)]
  rw [e]
  refine ⟨⟨h.hN, h.start, rfl, by show k.passes + 1 = _; omega, by show (k.X.set _ _).length = N; rw [List.length_set]; exact h.X, h.s1, by have := h.r1; omega⟩, ⟨rfl, rfl, rfl, rfl, rfl⟩, rfl, rfl, ?_⟩
  show (if 1 < k.passes + 1 ∧ (k.turned || decide (C.getD k.slot 0 ≠ k.X.getD k.slot 0)) = false then 1 else k.ph) = _
  rw [hp]
  by_cases hc : 1 ≤ P ∧ (k.turned || decide (C.getD k.slot 0 ≠ k.X.getD k.slot 0)) = false
  · rw [if_pos hc, if_pos ⟨by omega, hc.2⟩]
  · rw [if_neg hc, if_neg (fun h2 => hc ⟨by omega, h2.2⟩)]

theorem SnAt.ok (h : SnAt k N st r P) {n : Int} (hl : Lay k.t k.s n) (hN : (N : Int) = n) (hlen : (C.length : Int) = 2 * n + 2 * k.t) (hP : P ≤ 1000000) : k.Ok n C :=
  have h1 := h.hN; have h2 := h.start; have h3 := h.read; have h4 := h.passes; have h5 := h.X; have h6 := h.s1; have h7 := h.r1
  ⟨hl, by omega, hlen, by omega, by omega, by omega, by omega, by omega, by omega, by omega⟩

/-- While it goes on: last is the pass in which a word was turned at last, B bounds how many passes there were. -/
structure QInv (k : Sn) (C : List Int) (N st r P B : Nat) (last : Int) : Prop where
  at' : SnAt k N st r P
  ph : k.ph = 0
  a : last ≠ P → ∀ q, q < r → k.X.getD ((st + q) % N) 0 = C.getD ((st + q) % N) 0
  b : 1 ≤ P → last < (P : Int) - 1 → (∀ j, j < N → k.X.getD j 0 = C.getD j 0) ∧ k.turned = false
  c1 : last = P → P + 1 ≤ B
  c2 : last ≠ P → (P = 0 ∨ last = (P : Int) - 1) → P ≤ B
  c3 : P ≤ B + 1
  l : last ≤ P

/-- When it is done. -/
structure DInv (k : Sn) (C : List Int) (N st P B : Nat) (last : Int) : Prop where
  at' : SnAt k N st 0 P
  ph : k.ph = 1
  p : 2 ≤ P
  b : P ≤ B + 2
  x : last < (P : Int) - 1 → ∀ j, j < N → k.X.getD j 0 = C.getD j 0

theorem sn0_at (t s so d who : Int) (N st : Nat) (hs : st < N) : SnAt (sn0 t s so d who st N) N st 0 0 :=
  ⟨rfl, rfl, rfl, rfl, List.length_replicate, hs, by omega⟩
theorem QInv.start (t s so d who : Int) (C : List Int) (N st B : Nat) (hs : st < N) : QInv (sn0 t s so d who st N) C N st 0 0 B (-1) :=
  ⟨sn0_at t s so d who N st hs, rfl, fun _ q hq => by omega, fun h => by omega, fun h => by simp at h, fun _ _ => by omega, by omega, by decide⟩

/-- A word is turned. -/
theorem QInv.store {last : Int} {B : Nat} (h : QInv k C N st r P B last) (C' : List Int) : QInv k C' N st r P (if last = (P : Int) then B else B + 2) P := by
  have h1 := h.c1; have h3 := h.c3
  refine ⟨h.at', h.ph, fun e => absurd rfl e, fun _ e => by omega, fun _ => ?_, fun e => absurd rfl e, ?_, Int.le_refl _⟩
  · split
    · rename_i e
      exact h1 e
    · omega
  · split <;> omega

theorem set_getD (X : List Int) (j i : Nat) (x : Int) (hj : j < X.length) : (X.set j x).getD i 0 = if j = i then x else X.getD i 0 := by
  rw [getD_set']
  by_cases h : j = i
  · subst h
    rw [if_pos ⟨rfl, hj⟩, if_pos rfl]
  · rw [if_neg (fun e => h e.1), if_neg h]

theorem QInv.mid {last : Int} {B : Nat} (h : QInv k C N st r P B last) (hr : r + 1 < N) : QInv (k.step C) C N st (r + 1) P B last := by
  obtain ⟨m1, m2, m3, m4, m5⟩ := h.at'.mid (C := C) h.ph hr
  have hsl := h.at'.slot
  have hlt := h.at'.slot_lt
  have hX := h.at'.X
  refine ⟨m1, m2, fun hl q hq => ?_, fun hP hl => ?_, h.c1, h.c2, h.c3, h.l⟩
  · rw [m4, set_getD _ _ _ _ (by omega), hsl]
    split
    · rename_i e
      rw [e]
    · rename_i e
      have : q ≠ r := fun e2 => e (by rw [e2])
      exact h.a hl q (by omega)
  · obtain ⟨b1, b2⟩ := h.b hP hl
    refine ⟨fun j hj => ?_, ?_⟩
    · rw [m4, set_getD _ _ _ _ (by omega)]
      split
      · rename_i e
        rw [e]
      · exact b1 j hj
    · rw [m5, b2, b1 _ hlt]
      simp

theorem QInv.last {last : Int} {B : Nat} (h : QInv k C N st r P B last) (hr : r + 1 = N) : QInv (k.step C) C N st 0 (P + 1) B last ∨ DInv (k.step C) C N st (P + 1) B last := by
  obtain ⟨m1, m3, m4, m6, m7⟩ := h.at'.last (C := C) h.ph hr
  have hsl := h.at'.slot
  have hlt := h.at'.slot_lt
  have hX := h.at'.X
  have h1 := h.c1; have h2 := h.c2; have h3 := h.c3; have hl := h.l
  have full : last ≠ P → ∀ j, j < N → (k.step C).X.getD j 0 = C.getD j 0 := by
    intro hne j hj
    rw [m4, set_getD _ _ _ _ (by omega)]
    split
    · rename_i e
      rw [e]
    · rename_i e
      obtain ⟨q, hq, rfl⟩ := slot_sur h.at'.s1 hj
      have : q ≠ r := fun e2 => e (by rw [e2, hsl])
      exact h.a hne q (by omega)
  by_cases hd : 1 ≤ P ∧ (k.turned || decide (C.getD k.slot 0 ≠ k.X.getD k.slot 0)) = false
  · rw [if_pos hd] at m7
    exact .inr ⟨m1, m7, by omega, by omega, fun hlt2 => full (by omega)⟩
  · rw [if_neg hd] at m7
    refine .inl ⟨m1, m7, fun _ q hq => by omega, fun _ hl2 => ⟨full (by omega), m6⟩, fun e => by omega, fun _ hc => ?_, ?_, by omega⟩
    · rcases hc with hc | hc
      · omega
      · exact h1 (by omega)
    · by_cases e : last = (P : Int)
      · have := h1 e; omega
      · by_cases e2 : P = 0 ∨ last = (P : Int) - 1
        · have := h2 e e2; omega
        · exfalso
          obtain ⟨b1, b2⟩ := h.b (by omega) (by omega)
          refine hd ⟨by omega, ?_⟩
          rw [b2, b1 _ hlt]
          simp

/-- It goes on, or is done; i steps were done. -/
def Snap (k : Sn) (C : List Int) (N st i B : Nat) (last : Int) : Prop :=
  (∃ P r, i = P * N + r ∧ QInv k C N st r P B last) ∨ (∃ P, i = P * N ∧ DInv k C N st P B last)

theorem Snap.step {last : Int} {B i : Nat} (h : Snap k C N st i B last) (hp : k.ph = 0) : Snap (k.step C) C N st (i + 1) B last := by
  rcases h with ⟨P, r, hi, h⟩ | ⟨P, hi, h⟩
  · rcases (by have := h.at'.r1; omega : r + 1 < N ∨ r + 1 = N) with hr | hr
    · exact .inl ⟨P, r + 1, by omega, h.mid hr⟩
    · rcases h.last hr with h1 | h1
      · exact .inl ⟨P + 1, 0, by rw [Nat.add_mul]; omega, h1⟩
      · exact .inr ⟨P + 1, by rw [Nat.add_mul]; omega, h1⟩
  · have := h.ph
    omega
theorem Snap.same (C : List Int) (k : Sn) : SnSame k (k.step C) := by
  unfold Sn.step
  split
  · split <;> exact ⟨rfl, rfl, rfl, rfl, rfl⟩
  · exact ⟨rfl, rfl, rfl, rfl, rfl⟩
end

end Go.Proofs.Yticphioeipbnmaa
