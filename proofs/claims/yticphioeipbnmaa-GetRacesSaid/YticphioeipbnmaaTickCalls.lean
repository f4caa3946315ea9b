/-
  Contracts of the functions of package tick: what each call answers, what becomes of the stamp that is being made, of the cells, and of what is noted. No condition but that numbers fit their kinds.
-/
import Derived.Test.YticphioeipbnmaaTickBase
import Derived.IntWalk
namespace Go.Proofs.Yticphioeipbnmaa
open Go.RowKit
set_option linter.unusedVariables false

theorem low_range (x : Int) (h0 : 0 ≤ x) : 0 ≤ low x ∧ low x ≤ 16777215 := by unfold low; omega



theorem ret_i64' {a b : Int} (h : a = b) : Ending.returned (i64 a) = .returned (i64 b) := by rw [h]

theorem setTk {w : World} {b : Nat} {k k' : Tk} (h : IsTk w b k) (i : Nat) (u : Value) (hk : (k.list.set i u) = k'.list) : IsTk (w.setCell ⟨b, i, none⟩ u) b k' := by
  have hc : ∀ j x, k.list[j]? = some x → w.cell? ⟨b, j, none⟩ = some x := by
    intro j x hj
    obtain ⟨c0, c1, c2, c3, c4, c5, c6, c7, c8, c9, _⟩ := h
    rcases j with _ | _ | _ | _ | _ | _ | _ | _ | _ | _ | j
    all_goals first | (simp at hj; subst hj; assumption) | (simp at hj)
  have hn : ∀ j x, k'.list[j]? = some x → (w.setCell ⟨b, i, none⟩ u).cell? ⟨b, j, none⟩ = some x := by
    intro j x hj
    rw [← hk, List.getElem?_set] at hj
    by_cases hij : i = j
    · subst hij
      simp only [if_true] at hj
      split at hj
      · rename_i hl
        cases hj
        exact World.cell?_setCell_same _ _ _ (hc i _ (List.getElem?_eq_getElem hl))
      · cases hj
    · rw [if_neg hij] at hj
      rw [World.cell?_setCell_other _ _ _ _ (fun e => hij (by injection e))]
      exact hc j x hj
  exact ⟨hn 0 _ rfl, hn 1 _ rfl, hn 2 _ rfl, hn 3 _ rfl, hn 4 _ rfl, hn 5 _ rfl, hn 6 _ rfl, hn 7 _ rfl, hn 8 _ rfl, hn 9 _ rfl, fun o => by rw [World.frozen?_setCell]; exact h.fz o⟩

/-- A stamp's two numbers in a block. -/
def At2 (b : Nat) (x y : Int) (w : World) : Prop := w.cell? ⟨b, 0, none⟩ = some (i64 x) ∧ w.cell? ⟨b, 1, none⟩ = some (i64 y)

theorem Keep.own {b : Nat} {w w' : World} (h : Keep (· = b) w w') (o : Nat) (u : Value) : Keep (· = b) w (w'.setCell ⟨b, o, none⟩ u) := h.setCell _ rfl u

theorem At2.set {b a x y : _} {w : World} (h : At2 b x y w) (o : Nat) (u : Value) (hne : a ≠ b) : At2 b x y (w.setCell ⟨a, o, none⟩ u) :=
  ⟨by rw [World.cell?_setCell_other _ _ _ _ (fun e => hne (by injection e))]; exact h.1, by rw [World.cell?_setCell_other _ _ _ _ (fun e => hne (by injection e))]; exact h.2⟩

theorem fin_yes (k : Tk) {x y : Int} (h : 0 ≤ x ∧ x ≤ y ∧ y < 16777215) : fin k x y = { k with ph := 1, lo := x, hi := y } := if_pos h
theorem fin_no (k : Tk) {x y : Int} (h : ¬ (0 ≤ x ∧ x ≤ y ∧ y < 16777215)) : fin k x y = { k with ph := 2 } := if_neg h

section
variable (base : Nat) (w : World) (b p c : Nat) (v : Value) (C : List Int) (L : List Ev) (k : Tk) (nb : Nat) (n : Int)

end

end Go.Proofs.Yticphioeipbnmaa
