/-
  Contracts of Log (a new list of all that was noted) and of what package stackyardlaw03 has beside its statements. No condition but that numbers fit their kinds.
-/
import Derived.Test.YteokinaneilgjaaMemCalls2
namespace Go.Proofs.Yteokinaneilgjaa
open Go.RowKit
set_option linter.unusedVariables false

/-- A new list of events: its cells are in no block that was there, and nothing that was there has turned. -/
def LogPost (L : List Ev) (w : World) (r : Ending) (w' : World) : Prop :=
  ∃ v, r = .returned v ∧ w'.ownsRow w.heap.size 35 6 v L.length (flatE L) ∧ Below w.heap.size w w'

theorem src_row {w : World} {base : Nat} {g cap : Nat} {L : List Ev} (h : w.ownsRow base 35 6 (.slice (some ⟨g, 0, none⟩) L.length cap) L.length (flatE L)) : Src w 6 (some ⟨g, 0, none⟩) L.length (flatE L) :=
  ⟨(fun h => by cases h), flatE_length L, fun ad had j u hj => by cases had; exact h.cells rfl j u hj, flatE_one L⟩

set_option maxHeartbeats 1000000 in
theorem clone_any (base : Nat) (w : World) (v : Value) (L : List Ev) (h : w.ownsRow base 35 6 v L.length (flatE L)) (hL : L.length ≤ 1000000000) :
    Calls Try.prog 41 #[v] w (LogPost L w) := by
  rcases h.2 with ⟨rfl, h0⟩ | ⟨g, cap, cur, rfl, _, _⟩
  · have hl : L = [] := List.eq_nil_of_length_eq_zero h0
    subst hl
    clear h h0
    have q := fun W => run_eql_nil_slice (P := Try.prog) W 27 35 none 0 0 0 0 Try.underlying27
    go_enter Try.func41, Try.ntmps41
    go_wp2
    go_ret
    exact ⟨_, rfl, World.ownsRow_nil _ _ _ _, Below.refl _ _⟩
  · have hs := src_row h
    have Hs := Lib.hid hs
    clear hs h
    have q := fun W => Lib.run_eql_slice_nil (P := Try.prog) W 27 35 (some ⟨g, 0, none⟩) L.length cap 0 0 Try.underlying27
    go_enter Try.func41, Try.ntmps41
    go_wp2_with (at_builtin; refine list_append_grew rfl _ _ 27 rfl w.heap.size 35 _ 6 48 elem_ev (.slice (some ⟨w.heap.size, 0, none⟩) 0 0) 0 [] rfl (World.ownsRow_made w #[] 0 (Nat.le_refl _) (by unfold maxLen; omega) rfl) (some ⟨g, 0, none⟩) L.length cap (flatE L) rfl (src_later Hs.out (below_new (Below.refl _ _) _)) (by unfold maxLen; omega) (by omega) (by simp) ?_; intro v' w1 hG)
    go_ret
    rw [Nat.zero_add, List.nil_append] at hG
    exact ⟨_, rfl, hG.own, below_keep (below_new (Below.refl _ _) _) (Keep.of_grown (T := fun k => w.heap.size ≤ k) hG.grown (fun k hk => by cases hk; exact Nat.le_refl _)) (by simp) (fun i hi => hi)⟩

set_option maxHeartbeats 1000000 in
theorem log_any (base : Nat) (w : World) (p c : Nat) (v : Value) (C : List Int) (L : List Ev) (hM : IsMem base w p c v C L) (hL : L.length ≤ 1000000000) :
    Calls Try.prog 21 #[pt p] w (LogPost L w) := by
  have c1 := hM.c1
  obtain ⟨A, cap, rfl⟩ := own_shape hM.log
  have ho := hM.log
  clear hM
  have Ho := Lib.hid ho
  clear ho
  go_enter Try.func21, Try.ntmps21
  go_wp2_with fail
  refine (clone_any base _ _ L Ho.out hL).mono ?_
  rintro r w1 ⟨v', rfl, hr⟩
  go_wp2
  go_ret
  exact ⟨_, rfl, hr⟩

theorem mempost_step {base : Nat} {w w' : World} {p c : Nat} {v v' : Value} {C : List Int} {L : List Ev} (h : Touched base w w' p c v v' C L) : w.heap.size ≤ w'.heap.size := h.keep.size

set_option maxHeartbeats 2000000 in
theorem head3_any (w : World) : Calls Try.prog 16 #[] w fun r w' => r = .returned (.bool true) ∧ Below w.heap.size w w' := by
  go_enter Try.func16, Try.ntmps16
  go_wp2_with fail
  refine (new_nat w.heap.size 2 2 _ (Nat.le_refl _) (by decide) (.inl rfl)).mono ?_
  rintro r w1 ⟨p, c, rfl, hM1, hb1, hp, hc⟩
  go_wp2_with fail
  refine (len_any _ _ p c _ _ _ hM1).mono ?_
  rintro r w' ⟨rfl, rfl⟩
  go_wp2_with fail
  refine (add_in _ _ p c _ _ _ 1 0 0 5 hM1 rfl hb1.size (by decide)).mono ?_
  rintro r w2 ⟨rfl, v2, hT2⟩
  have hM2 := hT2.mem
  have e2 : add64 0 5 = 5 := by decide
  rw [e2] at hM2
  have hs2 := Nat.le_trans hb1.size hT2.keep.size
  have hb2 := below_keep hb1 hT2.keep hb1.size (fun i hi => (hM1.foot i hi).1)
  clear hT2
  go_wp2_with fail
  refine (swap_yes _ _ p c _ _ _ 1 0 5 7 hM2 rfl hs2 (by decide) (by decide) (by decide)).mono ?_
  rintro r w3 ⟨rfl, v3, hT3⟩
  have hM3 := hT3.mem
  have hs3 := Nat.le_trans hs2 hT3.keep.size
  have hb3 := below_keep hb2 hT3.keep hs2 (fun i hi => (hM2.foot i hi).1)
  clear hT3
  go_wp2_with fail
  refine (swap_no _ _ p c _ _ _ 2 0 7 5 9 hM3 rfl hs3 (by decide) (by decide)).mono ?_
  rintro r w4 ⟨rfl, v4, hT4⟩
  have hM4 := hT4.mem
  have hb4 := below_keep hb3 hT4.keep hs3 (fun i hi => (hM3.foot i hi).1)
  clear hT4
  go_wp2_with fail
  refine (peek_in _ _ p c _ _ _ 0 7 hM4 rfl).mono ?_
  rintro r w' ⟨rfl, rfl⟩
  go_wp2_with fail
  refine (count_any _ _ p c _ _ _ hM4).mono ?_
  rintro r w' ⟨rfl, rfl⟩
  go_wp2
  go_ret
  exact ⟨rfl, hb4⟩

end Go.Proofs.Yteokinaneilgjaa
