/-
  Contracts of Log (a new list of all that was noted) and of what package stackyardlaw03 has beside its statements. No condition but that numbers fit their kinds.
-/
import Derived.Test.YticphioeipbnmaaMemCalls2
namespace Go.Proofs.Yticphioeipbnmaa
open Go.RowKit
set_option linter.unusedVariables false

/-- A new list of events: its cells are in no block that was there, and nothing that was there has turned. -/
def LogPost (L : List Ev) (w : World) (r : Ending) (w' : World) : Prop :=
  ∃ v, r = .returned v ∧ w'.ownsRow w.heap.size 65 6 v L.length (flatE L) ∧ Below w.heap.size w w'

theorem src_row {w : World} {base : Nat} {g cap : Nat} {L : List Ev} (h : w.ownsRow base 65 6 (.slice (some ⟨g, 0, none⟩) L.length cap) L.length (flatE L)) : Src w 6 (some ⟨g, 0, none⟩) L.length (flatE L) :=
  ⟨(fun h => by cases h), flatE_length L, fun ad had j u hj => by cases had; exact h.cells rfl j u hj, flatE_one L⟩

set_option maxHeartbeats 1000000 in
theorem clone_any (base : Nat) (w : World) (v : Value) (L : List Ev) (h : w.ownsRow base 65 6 v L.length (flatE L)) (hL : L.length ≤ 1000000000) :
    Calls Try.prog 50 #[v] w (LogPost L w) := by
  rcases h.2 with ⟨rfl, h0⟩ | ⟨g, cap, cur, rfl, _, _⟩
  · have hl : L = [] := List.eq_nil_of_length_eq_zero h0
    subst hl
    clear h h0
    have q := fun W => run_eql_nil_slice (P := Try.prog) W 61 65 none 0 0 0 0 Try.underlying61
    go_enter Try.func50, Try.ntmps50
    go_wp2
    go_ret
    exact ⟨_, rfl, World.ownsRow_nil _ _ _ _, Below.refl _ _⟩
  · have hs := src_row h
    have Hs := Lib.hid hs
    clear hs h
    have q := fun W => Lib.run_eql_slice_nil (P := Try.prog) W 61 65 (some ⟨g, 0, none⟩) L.length cap 0 0 Try.underlying61
    go_enter Try.func50, Try.ntmps50
    go_wp2_with (at_builtin; refine list_append_grew rfl _ _ 61 rfl w.heap.size 65 _ 6 48 elem_ev (.slice (some ⟨w.heap.size, 0, none⟩) 0 0) 0 [] rfl (World.ownsRow_made w #[] 0 (Nat.le_refl _) (by unfold maxLen; omega) rfl) (some ⟨g, 0, none⟩) L.length cap (flatE L) rfl (src_later Hs.out (below_new (Below.refl _ _) _)) (by unfold maxLen; omega) (by omega) (by simp) ?_; intro v' w1 hG)
    go_ret
    rw [Nat.zero_add, List.nil_append] at hG
    exact ⟨_, rfl, hG.own, below_keep (below_new (Below.refl _ _) _) (Keep.of_grown (T := fun k => w.heap.size ≤ k) hG.grown (fun k hk => by cases hk; exact Nat.le_refl _)) (by simp) (fun i hi => hi)⟩

set_option maxHeartbeats 1000000 in
theorem log_any (base : Nat) (w : World) (p c : Nat) (v : Value) (C : List Int) (L : List Ev) (hM : IsMem base w p c v C L) (hL : L.length ≤ 1000000000) :
    Calls Try.prog 29 #[pt p] w (LogPost L w) := by
  have c1 := hM.c1
  obtain ⟨A, cap, rfl⟩ := own_shape hM.log
  have ho := hM.log
  clear hM
  have Ho := Lib.hid ho
  clear ho
  go_enter Try.func29, Try.ntmps29
  go_wp2_with fail
  refine (clone_any base _ _ L Ho.out hL).mono ?_
  rintro r w1 ⟨v', rfl, hr⟩
  go_wp2
  go_ret
  exact ⟨_, rfl, hr⟩

theorem mempost_step {base : Nat} {w w' : World} {p c : Nat} {v v' : Value} {C : List Int} {L : List Ev} (h : Touched base w w' p c v v' C L) : w.heap.size ≤ w'.heap.size := h.keep.size

end Go.Proofs.Yticphioeipbnmaa
