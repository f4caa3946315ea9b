/-
  Plain lemmas on what a step of a stamp does. No condition.
-/
import Derived.Test.YtoogdfjlodchhaaTickBase
namespace Go.Proofs.Ytoogdfjlodchhaa
open Go.RowKit
set_option linter.unusedVariables false

theorem fin_same (k : Tk) (x y : Int) : (fin k x y).t = k.t ∧ (fin k x y).s = k.s ∧ (fin k x y).so = k.so ∧ (fin k x y).d = k.d ∧ (fin k x y).who = k.who ∧ (fin k x y).steps = k.steps ∧ (fin k x y).seen = k.seen ∧ 1 ≤ (fin k x y).ph ∧ (fin k x y).ph ≤ 2 := by
  unfold fin
  split <;> simp

theorem stp_same (nb : Nat) (k : Tk) (C : List Int) (now : Int) : (stp nb k C now).1.t = k.t ∧ (stp nb k C now).1.s = k.s ∧ (stp nb k C now).1.so = k.so ∧ (stp nb k C now).1.d = k.d ∧ (stp nb k C now).1.who = k.who ∧ (stp nb k C now).2.1.length = C.length := by
  unfold stp
  repeat' split
  all_goals
    first
    | (have h1 := fin_same { k with steps := k.steps + 1 } (low (C.getD nb 0)) (low (C.getD nb 0)); have h2 := fin_same { k with steps := k.steps + 1 } k.seen (low (C.getD nb 0) - 1); have h3 := fin_same { k with steps := k.steps + 1 } k.seen k.seen; have h4 := fin_same { k with steps := k.steps + 1, seen := if k.steps = 0 then low now else k.seen } (if k.steps = 0 then low now else k.seen) (low now); simp_all; done)
    | (unfold fin; split <;> simp; done)
    | (simp; done)

set_option maxHeartbeats 2000000 in
theorem stp_ok (nb : Nat) (n : Int) (k : Tk) (C : List Int) (now : Int) (h : k.Ok nb n C) (hs : k.steps < 1000000) (n0 : 0 ≤ now) (hC : ∀ j, 0 ≤ C.getD j 0) : (stp nb k C now).1.Ok nb n (stp nb k C now).2.1 := by
  obtain ⟨e1, e2, e3, e4, e5, e6⟩ := stp_same nb k C now
  have hlow : ∀ x, 0 ≤ x → 0 ≤ low x ∧ low x ≤ 16777215 := fun x hx => by unfold low; omega
  have hln := hlow now n0
  have hlx := hlow _ (hC nb)
  have hly := hlow _ (hC (nb + k.steps.toNat))
  have key : 0 ≤ (stp nb k C now).1.steps ∧ (stp nb k C now).1.steps ≤ 1000000 ∧ 0 ≤ (stp nb k C now).1.seen ∧ (stp nb k C now).1.seen ≤ 16777215 ∧ 0 ≤ (stp nb k C now).1.ph ∧ (stp nb k C now).1.ph ≤ 2 ∧ (k.so = 2 → 1 ≤ (stp nb k C now).1.steps → (stp nb k C now).1.ph = 0 → (stp nb k C now).1.seen < 16777215) := by
    have h1 := h.s0; have h2 := h.s1; have h3 := h.e0; have h4 := h.e1; have h5 := h.p0; have h6 := h.p1; have h7 := h.sw
    have f1 := fin_same { k with steps := k.steps + 1 } (low (C.getD nb 0)) (low (C.getD nb 0)); have f2 := fin_same { k with steps := k.steps + 1 } k.seen (low (C.getD nb 0) - 1); have f3 := fin_same { k with steps := k.steps + 1 } k.seen k.seen
    have f4 := fin_same { k with steps := k.steps + 1, seen := if k.steps = 0 then low now else k.seen } (if k.steps = 0 then low now else k.seen) (low now)
    have f6 := fin_same { k with steps := k.steps + 1 } k.seen (low now)
    have f7 := fin_same { k with steps := k.steps + 1, seen := low now } (low now) (low now)
    have f5 : 0 ≤ (if k.steps = 0 then low now else k.seen) ∧ (if k.steps = 0 then low now else k.seen) ≤ 16777215 := by split <;> omega
    unfold stp
    simp only at f1 f2 f3 f4 f6 f7
    repeat' split
    all_goals simp only
    all_goals first | omega | (split <;> omega)
  exact ⟨by rw [e1, e2]; exact h.lay, by rw [e1]; exact h.nt, by rw [e6, e1]; exact h.len, by rw [e5]; exact h.w0, by rw [e5, e1]; exact h.w1, key.1, key.2.1, key.2.2.1, key.2.2.2.1, by rw [e3]; exact h.o0, by rw [e3]; exact h.o1, by rw [e4]; exact h.d0, by rw [e4]; exact h.d1, key.2.2.2.2.1, key.2.2.2.2.2.1, by rw [e3]; exact key.2.2.2.2.2.2⟩

section
variable {nb : Nat} {k : Tk} {C : List Int} {now : Int}
theorem stp_c0 (hp : k.ph = 0) (h : k.so = 0) : stp nb k C now = (fin { k with steps := k.steps + 1 } (low (C.getD nb 0)) (low (C.getD nb 0)), C.set nb (add64 (C.getD nb 0) 1), some ⟨k.who, 3, nb, C.getD nb 0, add64 (C.getD nb 0) 1, true⟩) := by
  unfold stp
  rw [if_pos hp, if_pos h]
theorem stp_c1l (hp : k.ph = 0) (h : k.so = 1) (hl : k.steps < k.t) : stp nb k C now = ({ k with steps := k.steps + 1, seen := max k.seen (low (C.getD (nb + k.steps.toNat) 0)) }, C, some ⟨k.who, 0, (nb + k.steps.toNat : Nat), C.getD (nb + k.steps.toNat) 0, C.getD (nb + k.steps.toNat) 0, true⟩) := by
  unfold stp
  rw [if_pos hp, if_neg (by omega), if_pos h, if_pos hl]
theorem stp_c1d (hp : k.ph = 0) (h : k.so = 1) (hl : ¬ k.steps < k.t) (hs : k.seen + 1 < 16777215) : stp nb k C now = ({ k with steps := k.steps + 1, ph := 1, lo := k.seen + 1, hi := k.seen + 1 }, C.set (nb + k.who.toNat) (k.seen + 1), some ⟨k.who, 1, (nb + k.who.toNat : Nat), C.getD (nb + k.who.toNat) 0, k.seen + 1, true⟩) := by
  unfold stp
  rw [if_pos hp, if_neg (by omega), if_pos h, if_neg hl, if_pos hs]
theorem stp_c1f (hp : k.ph = 0) (h : k.so = 1) (hl : ¬ k.steps < k.t) (hs : ¬ k.seen + 1 < 16777215) : stp nb k C now = ({ k with steps := k.steps + 1, ph := 2 }, C, none) := by
  unfold stp
  rw [if_pos hp, if_neg (by omega), if_pos h, if_neg hl, if_neg hs]
theorem stp_c20 (hp : k.ph = 0) (h : k.so = 2) (hs : k.steps = 0) : stp nb k C now = ({ k with steps := k.steps + 1, seen := low (C.getD nb 0), ph := if low (C.getD nb 0) = 16777215 then 2 else 0 }, C, some ⟨k.who, 0, nb, C.getD nb 0, C.getD nb 0, true⟩) := by
  unfold stp
  rw [if_pos hp, if_neg (by omega), if_neg (by omega), if_pos h, if_pos hs]
theorem stp_c21s (hp : k.ph = 0) (h : k.so = 2) (hs : k.steps = 1) (hx : low (C.getD nb 0) = k.seen) : stp nb k C now = ({ k with steps := k.steps + 1 }, C, some ⟨k.who, 0, nb, C.getD nb 0, C.getD nb 0, true⟩) := by
  unfold stp
  rw [if_pos hp, if_neg (by omega), if_neg (by omega), if_pos h, if_neg (by omega), if_pos hs, if_pos hx]
theorem stp_c21d (hp : k.ph = 0) (h : k.so = 2) (hs : k.steps = 1) (hx : ¬ low (C.getD nb 0) = k.seen) : stp nb k C now = (fin { k with steps := k.steps + 1 } k.seen (low (C.getD nb 0) - 1), C, some ⟨k.who, 0, nb, C.getD nb 0, C.getD nb 0, true⟩) := by
  unfold stp
  rw [if_pos hp, if_neg (by omega), if_neg (by omega), if_pos h, if_neg (by omega), if_pos hs, if_neg hx]
theorem stp_c22y (hp : k.ph = 0) (h : k.so = 2) (hs : k.steps = 2) (hx : C.getD nb 0 = k.seen) : stp nb k C now = (fin { k with steps := k.steps + 1 } k.seen k.seen, C.set nb (k.seen + 1), some ⟨k.who, 2, nb, C.getD nb 0, k.seen + 1, true⟩) := by
  unfold stp
  rw [if_pos hp, if_neg (by omega), if_neg (by omega), if_pos h, if_neg (by omega), if_neg (by omega), if_pos hs, if_pos hx]
theorem stp_c22n (hp : k.ph = 0) (h : k.so = 2) (hs : k.steps = 2) (hx : ¬ C.getD nb 0 = k.seen) : stp nb k C now = ({ k with steps := k.steps + 1 }, C, some ⟨k.who, 2, nb, C.getD nb 0, C.getD nb 0, false⟩) := by
  unfold stp
  rw [if_pos hp, if_neg (by omega), if_neg (by omega), if_pos h, if_neg (by omega), if_neg (by omega), if_pos hs, if_neg hx]
theorem stp_c23 (hp : k.ph = 0) (h : k.so = 2) (hs : 3 ≤ k.steps) : stp nb k C now = (fin { k with steps := k.steps + 1 } k.seen (low (C.getD nb 0) - 1), C, some ⟨k.who, 0, nb, C.getD nb 0, C.getD nb 0, true⟩) := by
  unfold stp
  rw [if_pos hp, if_neg (by omega), if_neg (by omega), if_pos h, if_neg (by omega), if_neg (by omega), if_neg (by omega)]
theorem stp_c3 (hp : k.ph = 0) (h : k.so = 3 ∨ k.so = 4 ∧ k.d < k.steps) : stp nb k C now = (fin { k with steps := k.steps + 1, seen := if k.steps = 0 then low now else k.seen } (if k.steps = 0 then low now else k.seen) (low now), C, none) := by
  unfold stp
  rw [if_pos hp, if_neg (by omega), if_neg (by omega), if_neg (by omega), if_pos (by omega)]
theorem stp_c4 (hp : k.ph = 0) (h : k.so = 4) (hd : k.steps ≤ k.d) : stp nb k C now = ({ k with steps := k.steps + 1, seen := if k.steps = 0 then low now else k.seen }, C, none) := by
  unfold stp
  rw [if_pos hp, if_neg (by omega), if_neg (by omega), if_neg (by omega), if_neg (by omega)]
end

theorem fin_yes' (k : Tk) {x y : Int} (h : 0 ≤ x ∧ x ≤ y ∧ y < 16777215) : fin k x y = { k with ph := 1, lo := x, hi := y } := if_pos h

/-- How many steps a stamp takes where nobody else does any. -/
def alone (t so d : Int) : Int := if so = 2 then 3 else if so = 0 then 1 else if so = 1 then t + 1 else if so = 3 then 1 else d + 2

/-- A stamp that is made alone, from cells that are nought, n steps on. -/
structure Solo (nb : Nat) (m : Int) (T so d now : Int) (n : Nat) (k : Tk) (C : List Int) : Prop where
  ok : k.Ok nb m C
  ht : k.t = T
  hso : k.so = so
  hd : k.d = d
  le : (n : Int) ≤ alone T so d
  steps : k.steps = n
  nn : ∀ j, 0 ≤ C.getD j 0
  going : (n : Int) < alone T so d → k.ph = 0 ∧ (so ≤ 2 → k.seen = 0) ∧ (3 ≤ so → n ≠ 0 → k.seen = now) ∧ ∀ j, C.getD j 0 = 0
  done : (n : Int) = alone T so d → k.ph = 1

set_option maxHeartbeats 1000000 in
theorem solo_step {nb : Nat} {m T so d now : Int} {n : Nat} {k : Tk} {C : List Int} (h : Solo nb m T so d now n k C) (hlt : (n : Int) < alone T so d) (n0 : 0 ≤ now) (n1 : now + n < 16777215) (hT : T ≤ 4) (hd : d ≤ 3)
    (hC' : ∀ j, 0 ≤ (stp nb k C (now + n)).2.1.getD j 0) : Solo nb m T so d now (n + 1) (stp nb k C (now + n)).1 (stp nb k C (now + n)).2.1 := by
  obtain ⟨hp, hg1, hg2, hz⟩ := h.going hlt
  obtain ⟨e1, e2, e3, e4, e5, e6⟩ := stp_same nb k C (now + n)
  have ho0 := h.ok.o0
  have ho1 := h.ok.o1
  have hso := h.hso
  have hst := h.steps
  have hkt := h.ht
  have hkd := h.hd
  have hz0 := hz nb
  have hal : alone T so d ≤ 5 := by unfold alone; repeat' split
                                    all_goals omega
  have ln : low now = now := by unfold low; omega
  have lnn : low (now + n) = now + n := by unfold low; omega
  have l0 : low 0 = 0 := by decide
  have ok' := stp_ok nb m k C (now + n) h.ok (by omega) (by omega) h.nn
  have key : (stp nb k C (now + n)).1.steps = ((n + 1 : Nat) : Int) ∧ (((n + 1 : Nat) : Int) < alone T so d → (stp nb k C (now + n)).1.ph = 0 ∧ (so ≤ 2 → (stp nb k C (now + n)).1.seen = 0) ∧ (3 ≤ so → n + 1 ≠ 0 → (stp nb k C (now + n)).1.seen = now) ∧ (stp nb k C (now + n)).2.1 = C) ∧ (((n + 1 : Nat) : Int) = alone T so d → (stp nb k C (now + n)).1.ph = 1) := by
    unfold stp
    rw [if_pos hp]
    rcases (by omega : so = 0 ∨ so = 1 ∨ so = 2 ∨ so = 3 ∨ so = 4) with rfl | rfl | rfl | rfl | rfl
    · have ha : alone T 0 d = 1 := rfl
      rw [if_pos hso, hz0, l0, fin_yes' _ (by omega)]
      refine ⟨by simp only; omega, fun h => by omega, fun _ => rfl⟩
    · have ha : alone T 1 d = T + 1 := rfl
      rw [if_neg (by omega), if_pos hso]
      by_cases hlt2 : k.steps < k.t
      · rw [if_pos hlt2, hz]
        have hs := hg1 (by omega)
        refine ⟨by simp only; omega, fun h => ⟨hp, fun _ => by simp only [hs, l0]; rfl, fun h => by omega, rfl⟩, fun h => by omega⟩
      · rw [if_neg hlt2, if_pos (by have := hg1 (by omega); omega)]
        refine ⟨by simp only; omega, fun h => by omega, fun _ => rfl⟩
    · have ha : alone T 2 d = 3 := rfl
      have hs := hg1 (by omega)
      rw [if_neg (by omega), if_neg (by omega), if_pos hso, hz0, l0]
      by_cases h0 : k.steps = 0
      · rw [if_pos h0]
        refine ⟨by simp only; omega, fun h => ⟨rfl, fun _ => rfl, fun h => by omega, rfl⟩, fun h => by omega⟩
      · rw [if_neg h0]
        by_cases h1 : k.steps = 1
        · rw [if_pos h1, if_pos hs.symm]
          refine ⟨by simp only; omega, fun h => ⟨hp, fun _ => hs, fun h => by omega, rfl⟩, fun h => by omega⟩
        · rw [if_neg h1, if_pos (by omega), if_pos hs.symm, fin_yes' _ (by omega)]
          refine ⟨by simp only; omega, fun h => by omega, fun _ => rfl⟩
    · have ha : alone T 3 d = 1 := rfl
      rw [if_neg (by omega), if_neg (by omega), if_neg (by omega), if_pos (.inl hso), if_pos (by omega), lnn, fin_yes' _ (by omega)]
      refine ⟨by simp only; omega, fun h => by omega, fun _ => rfl⟩
    · have ha : alone T 4 d = d + 2 := rfl
      have hseen : (if k.steps = 0 then low (now + n) else k.seen) = now := by
        split
        · rw [lnn]; omega
        · exact hg2 (by omega) (by omega)
      rw [if_neg (by omega), if_neg (by omega), if_neg (by omega), hseen]
      by_cases hd2 : k.so = 3 ∨ k.d < k.steps
      · rw [if_pos hd2, lnn, fin_yes' _ (by omega)]
        refine ⟨by simp only; omega, fun h => by omega, fun _ => rfl⟩
      · rw [if_neg hd2]
        refine ⟨by simp only; omega, fun h => ⟨hp, fun h => by omega, fun _ _ => rfl, rfl⟩, fun h => by omega⟩
  refine ⟨ok', e1.trans h.ht, e3.trans h.hso, e4.trans h.hd, by omega, key.1, hC', fun h2 => ?_, key.2.2⟩
  obtain ⟨k1, k2, k3, k4⟩ := key.2.1 h2
  exact ⟨k1, k2, k3, fun j => by rw [k4]; exact hz j⟩

end Go.Proofs.Ytoogdfjlodchhaa
