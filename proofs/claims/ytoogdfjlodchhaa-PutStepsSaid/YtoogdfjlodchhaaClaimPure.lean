/-
  Plain lemmas on claims (as data): what is found, and after how many steps. No Go. No condition.
-/
import Derived.Test.YtoogdfjlodchhaaClaimLaw
namespace Go.Proofs.Ytoogdfjlodchhaa
open Go.RowKit
set_option linter.unusedVariables false

/-- A place may be used. -/
def usable (C : List Int) (t : Int) (hz : Nat) (slot : Int) : Prop :=
  C.getD slot.toNat 0 / 8 % 8192 ≠ 8191 ∧ (C.getD slot.toNat 0 % 4 = 0 ∨ (C.getD slot.toNat 0 % 4 = 2 ∧ ∀ h : Nat, (h : Int) < t → C.getD (hz + h) 0 ≠ slot + 1))

/-- It holds what the place says of itself. -/
def Cl.holds (k : Cl) (C : List Int) : Prop :=
  k.ws = C.getD k.slot.toNat 0 % 4 ∧ k.we = C.getD k.slot.toNat 0 / 4 % 2 ∧ k.wg = C.getD k.slot.toNat 0 / 8 % 8192 ∧ k.wl = C.getD k.slot.toNat 0 / 65536 % 16777216 ∧ k.wh = C.getD k.slot.toNat 0 / 1099511627776

/-- What is known of a claim behind i steps, of cells that nobody turns. -/
structure Fd (k : Cl) (C : List Int) (n m : Int) (hz : Nat) (i : Int) : Prop where
  ok : k.Ok n m hz C
  no : ∀ j, m ≤ j → j < k.slot → ¬ usable C k.t hz j
  i0 : k.ph = 0 → i ≤ (k.slot - m) * (k.t + 1) + k.steps
  g : k.ph = 0 → 1 ≤ k.steps → (C.getD k.slot.toNat 0 / 8 % 8192 ≠ 8191 ∧ C.getD k.slot.toNat 0 % 4 = 2 ∧ ∀ h : Nat, (h : Int) < k.steps - 1 → C.getD (hz + h) 0 ≠ k.slot + 1) ∧ k.holds C
  p1 : k.ph = 1 → usable C k.t hz k.slot ∧ k.holds C
  p2 : k.ph = 2 → k.slot = m + k.s - 1 ∧ ¬ usable C k.t hz k.slot
  pr : k.ph = 0 ∨ k.ph = 1 ∨ k.ph = 2

def Cl.Same (k k' : Cl) : Prop := k'.t = k.t ∧ k'.s = k.s ∧ k'.who = k.who

section
variable {k : Cl} {C : List Int} {n m i : Int} {hz : Nat}

theorem Cl.pass_same (k : Cl) (m : Int) : k.Same (k.pass m) := by
  unfold Cl.pass
  split <;> exact ⟨rfl, rfl, rfl⟩
theorem Cl.step_same (k : Cl) (m : Int) (hz : Nat) (C : List Int) : k.Same (k.step m hz C) := by
  unfold Cl.step
  split
  · split
    · unfold Cl.look
      split
      · exact Cl.pass_same (k.word _) m
      · split
        · exact ⟨rfl, rfl, rfl⟩
        · split
          · exact ⟨rfl, rfl, rfl⟩
          · exact Cl.pass_same (k.word _) m
    · unfold Cl.guard
      split
      · exact Cl.pass_same k m
      · split <;> exact ⟨rfl, rfl, rfl⟩
  · exact ⟨rfl, rfl, rfl⟩

/-- A place that may not be used is passed over. -/
theorem Fd.pass (h1 : k.Ok n m hz C) (hp : k.ph = 0) (hno : ∀ j, m ≤ j → j < k.slot → ¬ usable C k.t hz j) (hu : ¬ usable C k.t hz k.slot) (hi : i ≤ (k.slot - m) * (k.t + 1) + k.steps) : Fd (k.pass m) C n m hz (i + 1) := by
  obtain ⟨l, h2, h3, w0, w1, hm, m0, m1, s0, s1, g0, g1⟩ := h1
  have ht1 := l.t1
  unfold Cl.pass
  by_cases he : k.slot = m + k.s - 1
  · rw [if_pos he]
    exact ⟨⟨l, h2, h3, w0, w1, hm, m0, m1, s0, s1, g0, g1⟩, hno, (fun h => by simp at h), (fun h => by simp at h), (fun h => by simp at h), fun _ => ⟨he, hu⟩, .inr (.inr rfl)⟩
  · rw [if_neg he]
    refine ⟨⟨l, h2, h3, w0, w1, hm, m0, m1, by show m ≤ k.slot + 1; omega, by show k.slot + 1 < m + k.s; omega, Int.le_refl _, by show 0 ≤ k.t; omega⟩, fun j hj hj2 => ?_, fun _ => ?_, (fun _ h => by simp at h), fun h => ?_, fun h => ?_, .inl hp⟩
    · have hj3 : j < k.slot + 1 := hj2
      rcases (by omega : j < k.slot ∨ j = k.slot) with h | rfl
      · exact hno j hj h
      · exact hu
    · show i + 1 ≤ (k.slot + 1 - m) * (k.t + 1) + 0
      rw [show k.slot + 1 - m = (k.slot - m) + 1 by omega, Int.add_mul, Int.one_mul]
      omega
    · have h' : k.ph = 1 := h
      omega
    · have h' : k.ph = 2 := h
      omega

theorem Fd.step (h : Fd k C n m hz i) : Fd (k.step m hz C) C n m hz (i + 1) := by
  have hok := h.ok
  have hno := h.no
  obtain ⟨l, h2, h3, w0, w1, hm, m0, m1, s0, s1, g0, g1⟩ := id hok
  have ht1 := l.t1
  unfold Cl.step
  by_cases hp : k.ph = 0
  · rw [if_pos hp]
    have hi := h.i0 hp
    by_cases hs : k.steps = 0
    · rw [if_pos hs]
      have hc : k.cell hz = k.slot.toNat := if_pos hs
      rw [hc]
      have hh : (k.word (C.getD k.slot.toNat 0)).holds C := ⟨rfl, rfl, rfl, rfl, rfl⟩
      have hok2 : (k.word (C.getD k.slot.toNat 0)).Ok n m hz C := ⟨l, h2, h3, w0, w1, hm, m0, m1, s0, s1, g0, g1⟩
      unfold Cl.look
      split
      · rename_i hx
        exact Fd.pass hok2 hp hno (fun hu => hu.1 hx) hi
      · rename_i hx
        split
        · rename_i h0
          exact ⟨⟨l, h2, h3, w0, w1, hm, m0, m1, s0, s1, g0, g1⟩, hno, (fun h => by simp at h), (fun h => by simp at h), fun _ => ⟨⟨hx, .inl h0⟩, hh⟩, (fun h => by simp at h), .inr (.inl rfl)⟩
        · rename_i h0
          split
          · rename_i h4
            refine ⟨⟨l, h2, h3, w0, w1, hm, m0, m1, s0, s1, by show (0 : Int) ≤ 1; decide, ht1⟩, hno, fun _ => ?_, fun _ _ => ⟨⟨hx, h4, fun e he => by have he' : (e : Int) < 1 - 1 := he; omega⟩, hh⟩, fun h => ?_, fun h => ?_, .inl hp⟩
            · show i + 1 ≤ (k.slot - m) * (k.t + 1) + 1
              omega
            · have h' : k.ph = 1 := h
              omega
            · have h' : k.ph = 2 := h
              omega
          · rename_i h4
            exact Fd.pass hok2 hp hno (fun hu => by
              rcases hu.2 with h5 | ⟨h5, _⟩
              · exact h0 h5
              · exact h4 h5) hi
    · rw [if_neg hs]
      obtain ⟨⟨a1, a2, a3⟩, hh⟩ := h.g hp (by omega)
      have hc : k.cell hz = hz + (k.steps - 1).toNat := if_neg hs
      rw [hc]
      unfold Cl.guard
      split
      · rename_i hx
        refine Fd.pass hok hp hno (fun hu => ?_) hi
        rcases hu.2 with h5 | ⟨_, h5⟩
        · omega
        · exact h5 (k.steps - 1).toNat (by omega) hx
      · rename_i hx
        have hall : ∀ e : Nat, (e : Int) < k.steps → C.getD (hz + e) 0 ≠ k.slot + 1 := fun e he => by
          rcases (by omega : (e : Int) < k.steps - 1 ∨ e = (k.steps - 1).toNat) with h5 | rfl
          · exact a3 e h5
          · exact hx
        split
        · rename_i ht
          exact ⟨⟨l, h2, h3, w0, w1, hm, m0, m1, s0, s1, g0, g1⟩, hno, (fun h => by simp at h), (fun h => by simp at h), fun _ => ⟨⟨a1, .inr ⟨a2, fun e he => hall e (by have he' : (e : Int) < k.t := he; omega)⟩⟩, hh⟩, (fun h => by simp at h), .inr (.inl rfl)⟩
        · rename_i ht
          refine ⟨⟨l, h2, h3, w0, w1, hm, m0, m1, s0, s1, by show 0 ≤ k.steps + 1; omega, by show k.steps + 1 ≤ k.t; omega⟩, hno, fun _ => ?_, fun _ _ => ⟨⟨a1, a2, fun e he => hall e (by have he' : (e : Int) < k.steps + 1 - 1 := he; omega)⟩, hh⟩, fun h => ?_, fun h => ?_, .inl hp⟩
          · show i + 1 ≤ (k.slot - m) * (k.t + 1) + (k.steps + 1)
            omega
          · have h' : k.ph = 1 := h
            omega
          · have h' : k.ph = 2 := h
            omega
  · rw [if_neg hp]
    exact ⟨hok, hno, fun h => absurd h hp, fun h => absurd h hp, h.p1, h.p2, h.pr⟩

/-- It is done, or there is none, behind as many steps as Most says. -/
theorem Fd.most (h : Fd k C n m hz i) (hi : i = k.s * (k.t + 1)) : k.ph ≠ 0 := by
  intro hp
  have h0 := h.i0 hp
  have h1 := h.ok.s1
  have h2 := h.ok.g1
  have h3 := h.ok.lay.t1
  have h4 := Int.mul_le_mul_of_nonneg_right (show k.slot - m ≤ k.s - 1 by omega) (show 0 ≤ k.t + 1 by omega)
  rw [show (k.s - 1) * (k.t + 1) = k.s * (k.t + 1) - (k.t + 1) by rw [Int.sub_mul, Int.one_mul]] at h4
  omega

theorem Fd.start (t s so d who : Int) (hl : Lay t s n) (h2 : (hz : Int) = 2 * n) (h3 : (C.length : Int) = 2 * n + 2 * t) (w0 : 0 ≤ who) (w1 : who < t) (hm : who * s = m) (m0 : 0 ≤ m) (m1 : m + s ≤ n) : Fd (cl0 t s so d who m) C n m hz 0 :=
  ⟨⟨hl, h2, h3, w0, w1, hm, m0, m1, Int.le_refl _, by show m < m + s; have := hl.s1; omega, Int.le_refl _, by show 0 ≤ t; have := hl.t1; omega⟩, fun j hj hj2 => by have h : j < m := hj2; omega, fun _ => by show (0 : Int) ≤ (m - m) * (t + 1) + 0; rw [Int.sub_self, Int.zero_mul]; decide, (fun _ h => by simp [cl0] at h), (fun h => by simp [cl0] at h), (fun h => by simp [cl0] at h), .inl rfl⟩
end

theorem who_s {t s who : Int} {N : Nat} (hl : Lay t s N) (w0 : 0 ≤ who) (w1 : who < t) : ∃ m : Nat, who * s = (m : Int) ∧ (m : Int) + s ≤ N := by
  have h1 := hl.s1
  have h2 := Int.mul_nonneg w0 (show 0 ≤ s by omega)
  have h3 := Int.mul_le_mul_of_nonneg_right (show who + 1 ≤ t by omega) (show 0 ≤ s by omega)
  rw [hl.eq, Int.add_mul, Int.one_mul] at h3
  exact ⟨(who * s).toNat, by omega, by omega⟩

end Go.Proofs.Ytoogdfjlodchhaa
