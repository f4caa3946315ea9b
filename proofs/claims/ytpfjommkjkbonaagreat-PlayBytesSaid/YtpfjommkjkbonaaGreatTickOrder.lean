/-
  Plain lemmas on stamps that are made beside each other: of two of which the one was done ahead of the other's first step it is before that one. No condition.
-/
import Derived.Test.YtpfjommkjkbonaaGreatAClaim
namespace Go.Proofs.YtpfjommkjkbonaaGreat
open Go.RowKit
set_option linter.unusedVariables false

/-- All that this stamp may still come to lies above h. -/
def Bel (nb : Nat) (k : Tk) (C : List Int) (now h : Int) : Prop :=
  if k.so = 0 then h < C.getD nb 0
  else if k.so = 1 then h ≤ k.seen ∨ ∃ j : Nat, k.steps ≤ j ∧ (j : Int) < k.t ∧ h ≤ C.getD (nb + j) 0
  else if k.so = 2 then (k.steps = 0 → h < C.getD nb 0) ∧ (k.steps ≠ 0 → h < k.seen)
  else (k.steps = 0 → h < now) ∧ (k.steps ≠ 0 → h < k.seen)

/-- A stamp under way, and cells that only such steps have turned (at most M). -/
structure Go1 (nb : Nat) (k : Tk) (C : List Int) (now M : Int) : Prop where
  ph : k.ph = 0
  seen : k.so ≤ 2 → k.seen ≤ M
  low : k.so = 2 → k.steps ≠ 0 → k.seen ≤ C.getD nb 0
  sw : k.so = 2 → 3 ≤ k.steps → k.seen < C.getD nb 0
  own : k.so = 1 → k.who < k.steps → C.getD (nb + k.who.toNat) 0 ≤ k.seen
  time : 3 ≤ k.so → k.steps ≠ 0 → k.seen ≤ now

/-- The cells: at most M. -/
def Most1 (C : List Int) (M : Int) : Prop := ∀ j, 0 ≤ C.getD j 0 ∧ C.getD j 0 ≤ M

/-- Cells have gone on. -/
structure Up (nb : Nat) (so who t : Int) (C C' : List Int) : Prop where
  up : ∀ j, C.getD j 0 ≤ C'.getD j 0
  other : so = 1 → ∀ j : Nat, (j : Int) < t → (j : Int) ≠ who → C'.getD (nb + j) 0 = C.getD (nb + j) 0

theorem Bel.mono {nb : Nat} {k : Tk} {C C' : List Int} {now now' h : Int} (hB : Bel nb k C now h) (hC : ∀ j, C.getD j 0 ≤ C'.getD j 0) (hn : now ≤ now') : Bel nb k C' now' h := by
  unfold Bel at hB ⊢
  have h0 := hC nb
  split
  · rename_i h1
    rw [if_pos h1] at hB
    omega
  · rename_i h1
    rw [if_neg h1] at hB
    split
    · rename_i h2
      rw [if_pos h2] at hB
      rcases hB with hB | ⟨j, a, b, c⟩
      · exact .inl hB
      · exact .inr ⟨j, a, b, Int.le_trans c (hC _)⟩
    · rename_i h2
      rw [if_neg h2] at hB
      split
      · rename_i h3
        rw [if_pos h3] at hB
        exact ⟨fun h => by have := hB.1 h; omega, hB.2⟩
      · rename_i h3
        rw [if_neg h3] at hB
        exact ⟨fun h => by have := hB.1 h; omega, hB.2⟩

/-- Another stamp's step. -/
theorem Go1.other {nb : Nat} {k : Tk} {C C' : List Int} {now now' M M' t who : Int} (h : Go1 nb k C now M) (hU : Up nb k.so who t C C') (hk : k.who ≠ who) (h0 : 0 ≤ k.who) (ht : k.who < t) (hn : now ≤ now') (hM : M ≤ M') : Go1 nb k C' now' M' := by
  have h1 := hU.up nb
  exact ⟨h.ph, fun h2 => by have := h.seen h2; omega, fun h2 h3 => by have := h.low h2 h3; omega, fun h2 h3 => by have := h.sw h2 h3; omega,
    fun h2 h3 => by rw [hU.other h2 k.who.toNat (by omega) (by omega)]; exact h.own h2 h3, fun h2 h3 => by have := h.time h2 h3; omega⟩

/-- What a step comes to: it is under way still, and above all that it was above of; or it is done, above all those, and a stamp that is begun then is above it. -/
def Adv (nb : Nat) (k k' : Tk) (C C' : List Int) (now M : Int) : Prop :=
  (k'.ph = 0 ∧ Go1 nb k' C' (now + 1) (M + 1) ∧ ∀ h, Bel nb k C now h → Bel nb k' C' (now + 1) h) ∨
  (k'.ph = 1 ∧ 0 ≤ k'.lo ∧ k'.lo ≤ k'.hi ∧ k'.hi < 16777215 ∧ (∀ h, Bel nb k C now h → h < k'.lo) ∧ ∀ k0 : Tk, k0.so = k.so → k0.t = k.t → k0.steps = 0 → Bel nb k0 C' (now + 1) k'.hi)

theorem getD_up {C : List Int} {i : Nat} {x : Int} (h : C.getD i 0 ≤ x) : ∀ j, C.getD j 0 ≤ (C.set i x).getD j 0 := fun j => by
  rw [getD_set']
  split
  · rename_i hh
    rw [← hh.1]
    exact h
  · exact Int.le_refl _
theorem most_set {C : List Int} {i : Nat} {x M : Int} (h : Most1 C M) (h0 : 0 ≤ x) (h1 : x ≤ M + 1) : Most1 (C.set i x) (M + 1) := fun j => by
  rw [getD_set']
  split
  · exact ⟨h0, h1⟩
  · have := h j
    omega
theorem most_up {C : List Int} {M : Int} (h : Most1 C M) : Most1 C (M + 1) := fun j => by have := h j; omega
theorem up_refl (nb : Nat) (so who t : Int) (C : List Int) : Up nb so who t C C := ⟨fun _ => Int.le_refl _, fun _ _ _ _ => rfl⟩

theorem adv_step {nb : Nat} {k : Tk} {C : List Int} {now M n : Int} (hk : k.Ok nb n C) (h : Go1 nb k C now M) (hM : Most1 C M) (m0 : 0 ≤ M) (m1 : M < 1000) (n0 : 0 ≤ now) (n1 : now < 100000) :
    Adv nb k (stp nb k C now).1 C (stp nb k C now).2.1 now M ∧ Most1 (stp nb k C now).2.1 (M + 1) ∧ Up nb k.so k.who k.t C (stp nb k C now).2.1 := by
  have hlen := hk.len
  have hw0 := hk.w0
  have hw1 := hk.w1
  have hs0 := hk.s0
  have ht1 := hk.lay.t1
  have he0 := hk.e0
  have hx := hM nb
  have hl : low (C.getD nb 0) = C.getD nb 0 := by unfold low; omega
  have hln : low now = now := by unfold low; omega
  have hp := h.ph
  rcases (by have := hk.o0; have := hk.o1; omega : k.so = 0 ∨ k.so = 1 ∨ k.so = 2 ∨ k.so = 3 ∨ k.so = 4) with hs | hs | hs | hs | hs
  · have ha : add64 (C.getD nb 0) 1 = C.getD nb 0 + 1 := by unfold add64; rw [IntKind.wrap_u64]; omega
    rw [stp_c0 hp hs, hl, ha, fin_yes' _ (by omega)]
    refine ⟨.inr ⟨rfl, hx.1, Int.le_refl _, by show C.getD nb 0 < 16777215; omega, fun g hg => ?_, fun k0 e0 _ _ => ?_⟩, most_set hM (by omega) (by omega), ⟨getD_up (by omega), fun h => by omega⟩⟩
    · unfold Bel at hg
      rw [if_pos hs] at hg
      exact hg
    · unfold Bel
      rw [if_pos (by omega), getD_set', if_pos ⟨rfl, by omega⟩]
      show C.getD nb 0 < C.getD nb 0 + 1
      omega
  · have hse := h.seen (by omega)
    by_cases hlt : k.steps < k.t
    · have hy := hM (nb + k.steps.toNat)
      have hly : low (C.getD (nb + k.steps.toNat) 0) = C.getD (nb + k.steps.toNat) 0 := by unfold low; omega
      rw [stp_c1l hp hs hlt, hly]
      refine ⟨.inl ⟨hp, ⟨hp, fun _ => by show max k.seen _ ≤ M + 1; omega, fun h => by have : k.so = 2 := h; omega, fun h => by have : k.so = 2 := h; omega, fun _ hw => ?_, fun h => by have : 3 ≤ k.so := h; omega⟩, fun g hg => ?_⟩, most_up hM, up_refl _ _ _ _ _⟩
      · show C.getD (nb + k.who.toNat) 0 ≤ max k.seen (C.getD (nb + k.steps.toNat) 0)
        have hw' : k.who < k.steps + 1 := hw
        by_cases hwk : k.who < k.steps
        · have := h.own hs hwk
          omega
        · rw [show k.who.toNat = k.steps.toNat by omega]
          omega
      · unfold Bel at hg ⊢
        rw [if_neg (by omega), if_pos hs] at hg
        rw [if_neg (by show ¬ k.so = 0; omega), if_pos hs]
        rcases hg with hg | ⟨j, a, b, c⟩
        · exact .inl (by show g ≤ max k.seen _; omega)
        · by_cases hj : (j : Int) = k.steps
          · refine .inl ?_
            show g ≤ max k.seen (C.getD (nb + k.steps.toNat) 0)
            rw [show k.steps.toNat = j by omega]
            omega
          · exact .inr ⟨j, by show k.steps + 1 ≤ j; omega, b, c⟩
    · have hw := h.own hs (by omega)
      rw [stp_c1d hp hs hlt (by omega)]
      refine ⟨.inr ⟨rfl, by show 0 ≤ k.seen + 1; omega, Int.le_refl _, by show k.seen + 1 < 16777215; omega, fun g hg => ?_, fun k0 e0 e1 e2 => ?_⟩, most_set hM (by omega) (by omega), ⟨getD_up (by omega), fun _ j hj hne => ?_⟩⟩
      · unfold Bel at hg
        rw [if_neg (by omega), if_pos hs] at hg
        show g < k.seen + 1
        rcases hg with hg | ⟨j, a, b, c⟩
        · omega
        · omega
      · unfold Bel
        rw [if_neg (by omega), if_pos (by omega)]
        refine .inr ⟨k.who.toNat, by omega, by omega, ?_⟩
        rw [getD_set', if_pos ⟨rfl, by omega⟩]
        exact Int.le_refl _
      · rw [getD_set', if_neg (by omega)]
  · by_cases h0 : k.steps = 0
    · have hst := stp_c20 (nb := nb) (C := C) (now := now) hp hs h0
      rw [hl, if_neg (by omega)] at hst
      rw [hst]
      refine ⟨.inl ⟨rfl, ⟨rfl, fun _ => by show C.getD nb 0 ≤ M + 1; omega, fun _ _ => Int.le_refl _, fun _ h => by have : 3 ≤ k.steps + 1 := h; omega, fun h => by have : k.so = 1 := h; omega, fun h => by have : 3 ≤ k.so := h; omega⟩, fun g hg => ?_⟩, most_up hM, up_refl _ _ _ _ _⟩
      unfold Bel at hg ⊢
      rw [if_neg (by omega), if_neg (by omega), if_pos hs] at hg
      rw [if_neg (by show ¬ k.so = 0; omega), if_neg (by show ¬ k.so = 1; omega), if_pos hs]
      exact ⟨fun h => by have : k.steps + 1 = 0 := h; omega, fun _ => hg.1 h0⟩
    · have hse := h.seen (by omega)
      have hlo := h.low hs h0
      have keep : ∀ g, Bel nb k C now g → Bel nb { k with steps := k.steps + 1 } C (now + 1) g := fun g hg => by
        unfold Bel at hg ⊢
        rw [if_neg (by omega), if_neg (by omega), if_pos hs] at hg
        rw [if_neg (by show ¬ k.so = 0; omega), if_neg (by show ¬ k.so = 1; omega), if_pos hs]
        exact ⟨fun h => by have : k.steps + 1 = 0 := h; omega, fun _ => hg.2 h0⟩
      have done : k.seen < C.getD nb 0 → Adv nb k { k with steps := k.steps + 1, ph := 1, lo := k.seen, hi := C.getD nb 0 - 1 } C C now M := fun hlt =>
        .inr ⟨rfl, he0, by show k.seen ≤ C.getD nb 0 - 1; omega, by show C.getD nb 0 - 1 < 16777215; omega, fun g hg => by
          unfold Bel at hg
          rw [if_neg (by omega), if_neg (by omega), if_pos hs] at hg
          exact hg.2 h0, fun k0 e0 _ e2 => by
          unfold Bel
          rw [if_neg (by omega), if_neg (by omega), if_pos (by omega)]
          exact ⟨fun _ => by show C.getD nb 0 - 1 < _; omega, fun h => absurd e2 h⟩⟩
      by_cases h1 : k.steps = 1
      · by_cases hxx : low (C.getD nb 0) = k.seen
        · rw [stp_c21s hp hs h1 hxx]
          exact ⟨.inl ⟨hp, ⟨hp, fun _ => by show k.seen ≤ M + 1; omega, fun _ _ => hlo, fun _ h => by have : 3 ≤ k.steps + 1 := h; omega, fun h => by have : k.so = 1 := h; omega, fun h => by have : 3 ≤ k.so := h; omega⟩, keep⟩, most_up hM, up_refl _ _ _ _ _⟩
        · rw [stp_c21d hp hs h1 hxx, hl, fin_yes' _ (by omega)]
          exact ⟨done (by omega), most_up hM, up_refl _ _ _ _ _⟩
      · by_cases h2 : k.steps = 2
        · by_cases hxx : C.getD nb 0 = k.seen
          · rw [stp_c22y hp hs h2 hxx, fin_yes' _ (by omega)]
            refine ⟨.inr ⟨rfl, he0, Int.le_refl _, by show k.seen < 16777215; omega, fun g hg => ?_, fun k0 e0 _ e2 => ?_⟩, most_set hM (by omega) (by omega), ⟨getD_up (by omega), fun h => by omega⟩⟩
            · unfold Bel at hg
              rw [if_neg (by omega), if_neg (by omega), if_pos hs] at hg
              exact hg.2 h0
            · unfold Bel
              rw [if_neg (by omega), if_neg (by omega), if_pos (by omega)]
              refine ⟨fun _ => ?_, fun h => absurd e2 h⟩
              rw [getD_set', if_pos ⟨rfl, by omega⟩]
              show k.seen < k.seen + 1
              omega
          · rw [stp_c22n hp hs h2 hxx]
            exact ⟨.inl ⟨hp, ⟨hp, fun _ => by show k.seen ≤ M + 1; omega, fun _ _ => hlo, fun _ _ => by show k.seen < C.getD nb 0; omega, fun h => by have : k.so = 1 := h; omega, fun h => by have : 3 ≤ k.so := h; omega⟩, keep⟩, most_up hM, up_refl _ _ _ _ _⟩
        · have hsw := h.sw hs (by omega)
          rw [stp_c23 hp hs (by omega), hl, fin_yes' _ (by omega)]
          exact ⟨done hsw, most_up hM, up_refl _ _ _ _ _⟩
  all_goals
    have hseen : 0 ≤ (if k.steps = 0 then low now else k.seen) ∧ (if k.steps = 0 then low now else k.seen) ≤ now := by
      split
      · omega
      · rename_i h0
        exact ⟨he0, h.time (by omega) h0⟩
    have hbel : ∀ g, Bel nb k C now g → g < (if k.steps = 0 then low now else k.seen) := fun g hg => by
      unfold Bel at hg
      rw [if_neg (by omega), if_neg (by omega), if_neg (by omega)] at hg
      split
      · rename_i h0
        have := hg.1 h0
        omega
      · rename_i h0
        exact hg.2 h0
    have hfin : Adv nb k { k with steps := k.steps + 1, seen := (if k.steps = 0 then low now else k.seen), ph := 1, lo := (if k.steps = 0 then low now else k.seen), hi := now } C C now M :=
      .inr ⟨rfl, hseen.1, hseen.2, by show now < 16777215; omega, hbel, fun k0 e0 _ e2 => by
        unfold Bel
        rw [if_neg (by omega), if_neg (by omega), if_neg (by omega)]
        exact ⟨fun _ => by show now < now + 1; omega, fun h => absurd e2 h⟩⟩
    first
    | (rw [stp_c3 hp (.inl hs), hln, fin_yes' _ (by rw [hln] at hseen; omega)]
       rw [hln] at hfin
       exact ⟨hfin, most_up hM, up_refl _ _ _ _ _⟩)
    | (by_cases hd : k.d < k.steps
       · rw [stp_c3 hp (.inr ⟨hs, hd⟩), hln, fin_yes' _ (by rw [hln] at hseen; omega)]
         rw [hln] at hfin
         exact ⟨hfin, most_up hM, up_refl _ _ _ _ _⟩
       · rw [stp_c4 hp hs (by omega)]
         refine ⟨.inl ⟨hp, ⟨hp, fun h => by have : k.so ≤ 2 := h; omega, fun h => by have : k.so = 2 := h; omega, fun h => by have : k.so = 2 := h; omega, fun h => by have : k.so = 1 := h; omega, fun _ _ => by show (if k.steps = 0 then low now else k.seen) ≤ now + 1; omega⟩, fun g hg => ?_⟩, most_up hM, up_refl _ _ _ _ _⟩
         unfold Bel
         rw [if_neg (by show ¬ k.so = 0; omega), if_neg (by show ¬ k.so = 1; omega), if_neg (by show ¬ k.so = 2; omega)]
         exact ⟨fun h => by have : k.steps + 1 = 0 := h; omega, fun _ => hbel g hg⟩)

end Go.Proofs.YtpfjommkjkbonaaGreat
