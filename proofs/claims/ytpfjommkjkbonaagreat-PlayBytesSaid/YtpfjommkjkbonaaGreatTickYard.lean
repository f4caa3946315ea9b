/-
  Stamps that are made beside each other in a yard, whatever the time: of two of which the one was done ahead of the other's first step it is before that one. No Go. No condition.
-/
import Derived.Test.YtpfjommkjkbonaaGreatTickOrder
namespace Go.Proofs.YtpfjommkjkbonaaGreat
open Go.RowKit
set_option linter.unusedVariables false

/-- The numbers' cells: at most M. -/
def MostN (nb : Nat) (C : List Int) (M : Int) : Prop := ∀ j, nb ≤ j → 0 ≤ C.getD j 0 ∧ C.getD j 0 ≤ M
/-- Numbers have gone on. -/
structure UpN (nb : Nat) (so who t : Int) (C C' : List Int) : Prop where
  up : ∀ j, nb ≤ j → C.getD j 0 ≤ C'.getD j 0
  other : so = 1 → ∀ j : Nat, (j : Int) < t → (j : Int) ≠ who → C'.getD (nb + j) 0 = C.getD (nb + j) 0
theorem upN_refl (nb : Nat) (so who t : Int) (C : List Int) : UpN nb so who t C C := ⟨fun _ _ => Int.le_refl _, fun _ _ _ _ => rfl⟩
theorem mostN_up {nb : Nat} {C : List Int} {M M' : Int} (h : MostN nb C M) (hM : M ≤ M') : MostN nb C M' := fun j hj => by have := h j hj; omega
theorem mostN_set {nb : Nat} {C : List Int} {i : Nat} {x M : Int} (h : MostN nb C M) (h0 : 0 ≤ x) (h1 : x ≤ M + 1) : MostN nb (C.set i x) (M + 1) := fun j hj => by
  rw [getD_set']
  split
  · exact ⟨h0, h1⟩
  · have := h j hj
    omega
theorem Bel.upN {nb : Nat} {k : Tk} {C C' : List Int} {now now' h : Int} (hB : Bel nb k C now h) (hC : ∀ j, nb ≤ j → C.getD j 0 ≤ C'.getD j 0) (hn : now ≤ now') : Bel nb k C' now' h := by
  unfold Bel at hB ⊢
  have h0 := hC nb (Nat.le_refl _)
  split
  · rename_i h1
    rw [if_pos h1] at hB
    omega
  · rename_i h1
    rw [if_neg h1] at hB
    split
    · rename_i h2
      rw [if_pos h2] at hB
      rcases hB with hB | ⟨j, a, b, c⟩
      · exact .inl hB
      · exact .inr ⟨j, a, b, Int.le_trans c (hC _ (by omega))⟩
    · rename_i h2
      rw [if_neg h2] at hB
      split
      · rename_i h3
        rw [if_pos h3] at hB
        exact ⟨fun h => by have := hB.1 h; omega, hB.2⟩
      · rename_i h3
        rw [if_neg h3] at hB
        exact ⟨fun h => by have := hB.1 h; omega, hB.2⟩
/-- Another stamp's step. -/
theorem Go1.upN {nb : Nat} {k : Tk} {C C' : List Int} {now now' M M' t who : Int} (h : Go1 nb k C now M) (hU : UpN nb k.so who t C C') (hk : k.who ≠ who) (h0 : 0 ≤ k.who) (ht : k.who < t) (hn : now ≤ now') (hM : M ≤ M') : Go1 nb k C' now' M' := by
  have h1 := hU.up nb (Nat.le_refl _)
  exact ⟨h.ph, fun h2 => by have := h.seen h2; omega, fun h2 h3 => by have := h.low h2 h3; omega, fun h2 h3 => by have := h.sw h2 h3; omega,
    fun h2 h3 => by rw [hU.other h2 k.who.toNat (by omega) (by omega)]; exact h.own h2 h3, fun h2 h3 => by have := h.time h2 h3; omega⟩
/-- What isn't a number has been turned, and time has gone by. -/
theorem Go1.same {nb : Nat} {k : Tk} {C C' : List Int} {now now' M M' : Int} (h : Go1 nb k C now M) (hC : ∀ j, nb ≤ j → C'.getD j 0 = C.getD j 0) (hn : now ≤ now') (hM : M ≤ M') : Go1 nb k C' now' M' :=
  ⟨h.ph, fun h2 => by have := h.seen h2; omega, fun h2 h3 => by rw [hC nb (Nat.le_refl _)]; exact h.low h2 h3, fun h2 h3 => by rw [hC nb (Nat.le_refl _)]; exact h.sw h2 h3,
    fun h2 h3 => by rw [hC _ (by omega)]; exact h.own h2 h3, fun h2 h3 => by have := h.time h2 h3; omega⟩

/-- What a step comes to: it is under way still, and above all that it was above of; or it is done, above all those, and a stamp that is begun then is above it; or there are no stamps any more. -/
def AdvN (nb : Nat) (k k' : Tk) (C C' : List Int) (now now' M : Int) : Prop :=
  (k'.ph = 0 ∧ Go1 nb k' C' now' (M + 1) ∧ ∀ h, h < 16777215 → Bel nb k C now h → Bel nb k' C' now' h) ∨
  (k'.ph = 1 ∧ 0 ≤ k'.lo ∧ k'.lo ≤ k'.hi ∧ k'.hi < 16777215 ∧ (∀ h, h < 16777215 → Bel nb k C now h → h < k'.lo) ∧ ∀ k0 : Tk, k0.so = k.so → k0.t = k.t → k0.steps = 0 → Bel nb k0 C' now' k'.hi) ∨ k'.ph = 2

theorem adv_yard {nb : Nat} {k : Tk} {C : List Int} {now now' M n : Int} (hk : k.Ok nb n C) (h : Go1 nb k C now M) (hM : MostN nb C M) (m0 : 0 ≤ M) (m1 : M < 1000000) (n0 : 0 ≤ now) (hn : now ≤ now') (hn' : now < 16777215 → now < now') :
    AdvN nb k (stp nb k C now).1 C (stp nb k C now).2.1 now now' M ∧ MostN nb (stp nb k C now).2.1 (M + 1) ∧ UpN nb k.so k.who k.t C (stp nb k C now).2.1 := by
  have hlen := hk.len
  have hw0 := hk.w0
  have hw1 := hk.w1
  have hs0 := hk.s0
  have ht1 := hk.lay.t1
  have he0 := hk.e0
  have he1 := hk.e1
  have hx := hM nb (Nat.le_refl _)
  have hl : low (C.getD nb 0) = C.getD nb 0 := by unfold low; omega
  have hln : 0 ≤ low now ∧ low now ≤ now ∧ low now ≤ 16777215 ∧ (now < 16777215 → low now = now) ∧ (16777215 ≤ now → low now = 16777215) := by unfold low; omega
  have hp := h.ph
  have hmu : MostN nb C (M + 1) := mostN_up hM (by omega)
  rcases (by have := hk.o0; have := hk.o1; omega : k.so = 0 ∨ k.so = 1 ∨ k.so = 2 ∨ (k.so = 3 ∨ k.so = 4)) with hs | hs | hs | hs
  · have ha : add64 (C.getD nb 0) 1 = C.getD nb 0 + 1 := by unfold add64; rw [IntKind.wrap_u64]; omega
    rw [stp_c0 hp hs, hl, ha, fin_yes _ (by omega)]
    refine ⟨.inr (.inl ⟨rfl, hx.1, Int.le_refl _, by show C.getD nb 0 < 16777215; omega, fun g _ hg => ?_, fun k0 e0 _ _ => ?_⟩), mostN_set hM (by omega) (by omega), ⟨fun j _ => getD_up (by omega) j, fun h => by omega⟩⟩
    · unfold Bel at hg
      rw [if_pos hs] at hg
      exact hg
    · unfold Bel
      rw [if_pos (by omega), getD_set', if_pos ⟨rfl, by omega⟩]
      show C.getD nb 0 < C.getD nb 0 + 1
      omega
  · have hse := h.seen (by omega)
    by_cases hlt : k.steps < k.t
    · have hy := hM (nb + k.steps.toNat) (by omega)
      have hly : low (C.getD (nb + k.steps.toNat) 0) = C.getD (nb + k.steps.toNat) 0 := by unfold low; omega
      rw [stp_c1l hp hs hlt, hly]
      refine ⟨.inl ⟨hp, ⟨hp, fun _ => by show max k.seen _ ≤ M + 1; omega, fun h => by have : k.so = 2 := h; omega, fun h => by have : k.so = 2 := h; omega, fun _ hw => ?_, fun h => by have : 3 ≤ k.so := h; omega⟩, fun g _ hg => ?_⟩, hmu, upN_refl _ _ _ _ _⟩
      · show C.getD (nb + k.who.toNat) 0 ≤ max k.seen (C.getD (nb + k.steps.toNat) 0)
        have hw' : k.who < k.steps + 1 := hw
        by_cases hwk : k.who < k.steps
        · have := h.own hs hwk
          omega
        · rw [show k.who.toNat = k.steps.toNat by omega]
          omega
      · unfold Bel at hg ⊢
        rw [if_neg (by omega), if_pos hs] at hg
        rw [if_neg (by show ¬ k.so = 0; omega), if_pos hs]
        rcases hg with hg | ⟨j, a, b, c⟩
        · exact .inl (by show g ≤ max k.seen _; omega)
        · by_cases hj : (j : Int) = k.steps
          · refine .inl ?_
            show g ≤ max k.seen (C.getD (nb + k.steps.toNat) 0)
            rw [show k.steps.toNat = j by omega]
            omega
          · exact .inr ⟨j, by show k.steps + 1 ≤ j; omega, b, c⟩
    · have hw := h.own hs (by omega)
      rw [stp_c1d hp hs hlt (by omega)]
      refine ⟨.inr (.inl ⟨rfl, by show 0 ≤ k.seen + 1; omega, Int.le_refl _, by show k.seen + 1 < 16777215; omega, fun g _ hg => ?_, fun k0 e0 e1 e2 => ?_⟩), mostN_set hM (by omega) (by omega), ⟨fun j _ => getD_up (by omega) j, fun _ j hj hne => ?_⟩⟩
      · unfold Bel at hg
        rw [if_neg (by omega), if_pos hs] at hg
        show g < k.seen + 1
        rcases hg with hg | ⟨j, a, b, c⟩
        · omega
        · omega
      · unfold Bel
        rw [if_neg (by omega), if_pos (by omega)]
        refine .inr ⟨k.who.toNat, by omega, by omega, ?_⟩
        rw [getD_set', if_pos ⟨rfl, by omega⟩]
        exact Int.le_refl _
      · rw [getD_set', if_neg (by omega)]
  · by_cases h0 : k.steps = 0
    · have hst := stp_c20 (nb := nb) (C := C) (now := now) hp hs h0
      rw [hl, if_neg (by omega)] at hst
      rw [hst]
      refine ⟨.inl ⟨rfl, ⟨rfl, fun _ => by show C.getD nb 0 ≤ M + 1; omega, fun _ _ => Int.le_refl _, fun _ h => by have : 3 ≤ k.steps + 1 := h; omega, fun h => by have : k.so = 1 := h; omega, fun h => by have : 3 ≤ k.so := h; omega⟩, fun g _ hg => ?_⟩, hmu, upN_refl _ _ _ _ _⟩
      unfold Bel at hg ⊢
      rw [if_neg (by omega), if_neg (by omega), if_pos hs] at hg
      rw [if_neg (by show ¬ k.so = 0; omega), if_neg (by show ¬ k.so = 1; omega), if_pos hs]
      exact ⟨fun h => by have : k.steps + 1 = 0 := h; omega, fun _ => hg.1 h0⟩
    · have hse := h.seen (by omega)
      have hlo := h.low hs h0
      have keep : ∀ g, Bel nb k C now g → Bel nb { k with steps := k.steps + 1 } C now' g := fun g hg => by
        unfold Bel at hg ⊢
        rw [if_neg (by omega), if_neg (by omega), if_pos hs] at hg
        rw [if_neg (by show ¬ k.so = 0; omega), if_neg (by show ¬ k.so = 1; omega), if_pos hs]
        exact ⟨fun h => by have : k.steps + 1 = 0 := h; omega, fun _ => hg.2 h0⟩
      have done : k.seen < C.getD nb 0 → AdvN nb k { k with steps := k.steps + 1, ph := 1, lo := k.seen, hi := C.getD nb 0 - 1 } C C now now' M := fun hlt =>
        .inr (.inl ⟨rfl, he0, by show k.seen ≤ C.getD nb 0 - 1; omega, by show C.getD nb 0 - 1 < 16777215; omega, fun g _ hg => by
          unfold Bel at hg
          rw [if_neg (by omega), if_neg (by omega), if_pos hs] at hg
          exact hg.2 h0, fun k0 e0 _ e2 => by
          unfold Bel
          rw [if_neg (by omega), if_neg (by omega), if_pos (by omega)]
          exact ⟨fun _ => by show C.getD nb 0 - 1 < _; omega, fun h => absurd e2 h⟩⟩)
      by_cases h1 : k.steps = 1
      · by_cases hxx : low (C.getD nb 0) = k.seen
        · rw [stp_c21s hp hs h1 hxx]
          exact ⟨.inl ⟨hp, ⟨hp, fun _ => by show k.seen ≤ M + 1; omega, fun _ _ => hlo, fun _ h => by have : 3 ≤ k.steps + 1 := h; omega, fun h => by have : k.so = 1 := h; omega, fun h => by have : 3 ≤ k.so := h; omega⟩, fun g _ => keep g⟩, hmu, upN_refl _ _ _ _ _⟩
        · rw [stp_c21d hp hs h1 hxx, hl, fin_yes _ (by omega)]
          exact ⟨done (by omega), hmu, upN_refl _ _ _ _ _⟩
      · by_cases h2 : k.steps = 2
        · by_cases hxx : C.getD nb 0 = k.seen
          · rw [stp_c22y hp hs h2 hxx, fin_yes _ (by omega)]
            refine ⟨.inr (.inl ⟨rfl, he0, Int.le_refl _, by show k.seen < 16777215; omega, fun g _ hg => ?_, fun k0 e0 _ e2 => ?_⟩), mostN_set hM (by omega) (by omega), ⟨fun j _ => getD_up (by omega) j, fun h => by omega⟩⟩
            · unfold Bel at hg
              rw [if_neg (by omega), if_neg (by omega), if_pos hs] at hg
              exact hg.2 h0
            · unfold Bel
              rw [if_neg (by omega), if_neg (by omega), if_pos (by omega)]
              refine ⟨fun _ => ?_, fun h => absurd e2 h⟩
              rw [getD_set', if_pos ⟨rfl, by omega⟩]
              show k.seen < k.seen + 1
              omega
          · rw [stp_c22n hp hs h2 hxx]
            exact ⟨.inl ⟨hp, ⟨hp, fun _ => by show k.seen ≤ M + 1; omega, fun _ _ => hlo, fun _ _ => by show k.seen < C.getD nb 0; omega, fun h => by have : k.so = 1 := h; omega, fun h => by have : 3 ≤ k.so := h; omega⟩, fun g _ => keep g⟩, hmu, upN_refl _ _ _ _ _⟩
        · have hsw := h.sw hs (by omega)
          rw [stp_c23 hp hs (by omega), hl, fin_yes _ (by omega)]
          exact ⟨done hsw, hmu, upN_refl _ _ _ _ _⟩
  · obtain ⟨l0, l1, l2, l3, l4⟩ := hln
    have hseen : 0 ≤ (if k.steps = 0 then low now else k.seen) ∧ (if k.steps = 0 then low now else k.seen) ≤ now := by
      split
      · omega
      · rename_i h0
        exact ⟨he0, h.time (by omega) h0⟩
    have hbel : ∀ g, g < 16777215 → Bel nb k C now g → g < (if k.steps = 0 then low now else k.seen) := fun g g1 hg => by
      unfold Bel at hg
      rw [if_neg (by omega), if_neg (by omega), if_neg (by omega)] at hg
      split
      · rename_i h0
        have := hg.1 h0
        omega
      · rename_i h0
        exact hg.2 h0
    have hend : AdvN nb k (fin { k with steps := k.steps + 1, seen := (if k.steps = 0 then low now else k.seen) } (if k.steps = 0 then low now else k.seen) (low now)) C C now now' M := by
      by_cases hf : 0 ≤ (if k.steps = 0 then low now else k.seen) ∧ (if k.steps = 0 then low now else k.seen) ≤ low now ∧ low now < 16777215
      · rw [fin_yes _ hf]
        refine .inr (.inl ⟨rfl, hf.1, hf.2.1, hf.2.2, hbel, fun k0 e0 _ e2 => ?_⟩)
        have hlt : now < 16777215 := by omega
        unfold Bel
        rw [if_neg (by omega), if_neg (by omega), if_neg (by omega)]
        exact ⟨fun _ => by show low now < now'; have := hn' hlt; omega, fun h => absurd e2 h⟩
      · rw [fin_no _ hf]
        exact .inr (.inr rfl)
    by_cases hd : k.so = 3 ∨ k.so = 4 ∧ k.d < k.steps
    · rw [stp_c3 hp hd]
      exact ⟨hend, hmu, upN_refl _ _ _ _ _⟩
    · have hs4 : k.so = 4 := by omega
      rw [stp_c4 hp hs4 (by omega)]
      refine ⟨.inl ⟨hp, ⟨hp, fun h => by have : k.so ≤ 2 := h; omega, fun h => by have : k.so = 2 := h; omega, fun h => by have : k.so = 2 := h; omega, fun h => by have : k.so = 1 := h; omega, fun _ _ => by show (if k.steps = 0 then low now else k.seen) ≤ now'; omega⟩, fun g g1 hg => ?_⟩, hmu, upN_refl _ _ _ _ _⟩
      unfold Bel
      rw [if_neg (by show ¬ k.so = 0; omega), if_neg (by show ¬ k.so = 1; omega), if_neg (by show ¬ k.so = 2; omega)]
      exact ⟨fun h => by have : k.steps + 1 = 0 := h; omega, fun _ => hbel g g1 hg⟩
end Go.Proofs.YtpfjommkjkbonaaGreat
