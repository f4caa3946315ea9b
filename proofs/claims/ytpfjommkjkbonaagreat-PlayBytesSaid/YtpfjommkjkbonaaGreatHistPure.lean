/-
  Deeds as data: which is ahead of which, how many are under way at one time, which may have been done so; how these are counted. No Go. No condition.
-/
import Derived.Test.YtpfjommkjkbonaaGreatDeedBase
namespace Go.Proofs.YtpfjommkjkbonaaGreat
open Go.RowKit
set_option linter.unusedVariables false

/-- Was one over ahead of the other? -/
def dBef (a b : Dd) : Prop := 0 ≤ a.till ∧ a.till < b.fr
instance (a b : Dd) : Decidable (dBef a b) := inferInstanceAs (Decidable (_ ∧ _))
/-- Is it under way when the other one begins? -/
def dAt (d o : Dd) : Bool := decide (o.fr ≤ d.fr ∧ (o.till < 0 ∨ d.fr ≤ o.till))
def dUnder (l : List Dd) (d : Dd) : Nat := l.countP (dAt d)
def dMost (l : List Dd) : Nat → Nat
  | 0 => 0
  | e + 1 => max (dMost l e) (match l[e]? with | some d => dUnder l d | none => 0)

theorem count_le_one {α : Type} {q : α → Bool} : ∀ {l : List α}, (∀ (i j : Nat) (a b : α), i < j → l[i]? = some a → l[j]? = some b → q a = true → q b = true → False) → l.countP q ≤ 1
  | [], _ => by simp
  | a :: l, h => by
    have ih := count_le_one (l := l) (q := q) (fun i j x y hij hx hy => h (i + 1) (j + 1) x y (by omega) hx hy)
    by_cases ha : q a = true
    · have h0 : l.countP q = 0 := by
        rw [List.countP_eq_zero]
        intro b hb hq
        obtain ⟨j, hj⟩ := List.mem_iff_getElem?.1 hb
        exact h 0 (j + 1) a b (by omega) rfl hj ha hq
      rw [List.countP_cons, if_pos ha, h0]
      exact Nat.le_refl _
    · rw [List.countP_cons, if_neg ha]
      exact ih
theorem count_split {α : Type} (p r : α → Bool) : ∀ l : List α, l.countP p = l.countP (fun a => p a && r a) + l.countP (fun a => p a && !r a)
  | [] => rfl
  | a :: l => by
    rw [List.countP_cons, List.countP_cons, List.countP_cons, count_split p r l]
    cases hp : p a <;> cases hr : r a <;> simp <;> omega
/-- One at most of each of t kinds. -/
theorem count_kinds {α : Type} (k : α → Int) : ∀ (t : Nat) (p : α → Bool) (l : List α), (∀ a ∈ l, p a = true → 0 ≤ k a ∧ k a < t) → (∀ w : Nat, w < t → l.countP (fun a => p a && decide (k a = w)) ≤ 1) → l.countP p ≤ t
  | 0, p, l, h, _ => by
    have h0 : l.countP p = 0 := by
      rw [List.countP_eq_zero]
      intro a ha hp
      have := h a ha hp
      omega
    omega
  | t + 1, p, l, h, h1 => by
    rw [count_split p (fun a => decide (k a = (t : Nat))) l]
    have a1 := h1 t (by omega)
    have a2 := count_kinds k t (fun a => p a && !decide (k a = (t : Nat))) l (fun a ha hp => by
      simp only [Bool.and_eq_true, Bool.not_eq_true', decide_eq_false_iff_not] at hp
      have := h a ha hp.1
      omega) (fun w hw => by
      refine Nat.le_trans (List.countP_mono_left (fun a _ hp => ?_)) (h1 w (by omega))
      simp only [Bool.and_eq_true, Bool.not_eq_true', decide_eq_false_iff_not, decide_eq_true_eq] at hp ⊢
      exact ⟨hp.1.1, hp.2⟩)
    omega


end Go.Proofs.YtpfjommkjkbonaaGreat
