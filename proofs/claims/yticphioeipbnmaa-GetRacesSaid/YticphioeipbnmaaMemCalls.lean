/-
  Contracts of the functions of package mem: what each call answers, what the cells are then, and what is noted. No condition but that numbers fit their kinds.
-/
import Derived.Test.YticphioeipbnmaaMemBase
import Derived.BigRegion
namespace Go.Proofs.Yticphioeipbnmaa
open Go.RowKit
set_option linter.unusedVariables false

theorem ret_false {a : Bool} (h : a = false) : Ending.returned (.bool a) = .returned (.bool false) := by rw [h]

set_option maxHeartbeats 1000000 in
theorem has_in (base : Nat) (w : World) (p c : Nat) (v : Value) (C : List Int) (L : List Ev) (i : Nat) (hM : IsMem base w p c v C L) (hi : i < C.length) :
    Calls Try.prog 40 #[pt p, i64 i] w fun r w' => r = .returned (.bool true) ∧ w = w' := by
  have c0 := hM.c0
  have hi' : (i : Int) < (C.length : Int) := by omega
  go_enter Try.func40, Try.ntmps40
  go_wp2
  go_ret
  exact ⟨rfl, rfl⟩

set_option maxHeartbeats 1000000 in
theorem has_out (base : Nat) (w : World) (p c : Nat) (v : Value) (C : List Int) (L : List Ev) (i : Int) (hM : IsMem base w p c v C L) (hi : i < 0 ∨ (C.length : Int) ≤ i) :
    Calls Try.prog 40 #[pt p, i64 i] w fun r w' => r = .returned (.bool false) ∧ w = w' := by
  have c0 := hM.c0
  rcases hi with hi | hi
  all_goals
    go_enter Try.func40, Try.ntmps40
    go_wp2
    go_ret
    exact ⟨ret_false (by first | rfl | (simp only [decide_eq_false_iff_not]; omega)), rfl⟩

set_option maxHeartbeats 4000000 in
theorem turn_any (base : Nat) (w : World) (p c : Nat) (v : Value) (C : List Int) (L : List Ev) (who op : Int) (i : Nat) (x next : Int) (ok : Bool) (hM : IsMem base w p c v C L) (hx : C[i]? = some x) (hb : base ≤ w.heap.size) (hL : L.length < 1000000000) (h0 : 0 ≤ next) (h1 : next ≤ 18446744073709551615) :
    Calls Try.prog 41 #[pt p, i64 who, i64 op, i64 i, u64 next, .bool ok] w (MemPost base w p c v (C.set i next) (L ++ [⟨who, op, i, x, next, ok⟩]) (.returned (.tuple #[]))) := by
  have c0 := hM.c0
  have c1 := hM.c1
  have cx := hM.at' hx
  have f0 := hM.fz 0
  have f1 := hM.fz 1
  have hi := (List.getElem?_eq_some_iff.1 hx).1
  have hi' : (i : Int) < (C.length : Int) := by omega
  have fx := hM.row.frozenAt i
  have hs := hM.ps
  have hcs := hM.cb
  have hne := hM.pc
  have HM := Lib.hid hM
  have HX := Lib.hid hx
  clear hM hx
  go_enter Try.func41, Try.ntmps41
  go_wp2_with fail
  go_region_law (refine step_append_grew rfl _ _ 61 rfl base 65 _ 6 48 elem_ev v L.length (flatE L) rfl ?_ (some ⟨w.heap.size, 0, none⟩) 1 1 (Ev.cells ⟨who, op, i, x, next, ok⟩) rfl ?_ (by unfold maxLen; omega) (by omega) ?_ ?_; (focus exact (HM.out.later (by first | exact (below_new (Below.refl _ _) _).drew | exact below_new (Below.refl _ _).drew _)).log); (focus exact src_one' w _ ⟨who, op, i, x, next, ok⟩ rfl); (focus (simp; omega)); intro v' w' hG; have HG := turn_facts HM.out HX.out (by first | exact (below_new (Below.refl _ _) _).drew | exact below_new (Below.refl _ _).drew _) hG; obtain ⟨c0', c1', cx', f0', f1', fx'⟩ := HG; obtain ⟨A', cap', rfl⟩ := own_shape hG.own; replace hG := Lib.hid hG)
  all_goals
    go_wp2
    go_end0
    exact ⟨rfl, _, turn_post HM.out hi (by first | exact (below_new (Below.refl _ _) _).drew | exact below_new (Below.refl _ _).drew _) hG.out h0 h1⟩

end Go.Proofs.Yticphioeipbnmaa
