/-
  The contract of Touched of package stackyardlaw05. No condition but that numbers fit their kinds.
-/
import Derived.Test.YtengomcanconfaaTickLaw
import Derived.Test.YtengomcanconfaaMemSame
namespace Go.Proofs.Ytengomcanconfaa
open Go.RowKit
set_option linter.unusedVariables false

section
variable (base : Nat) (w : World) (p c : Nat) (v : Value) (C : List Int) (L : List Ev)

set_option maxHeartbeats 2000000 in
theorem touched_none (who op next : Int) (hM : IsMem base w p c v C L) (hL : L.length ≤ 1000000000) :
    Calls Try.prog 23 #[pt p, i64 L.length, i64 who, i64 (-1), i64 op, u64 next] w fun r w' => r = .returned (.bool true) ∧ Below w.heap.size w w' := by
  have HM := Lib.hid hM
  clear hM
  go_enter Try.func23, Try.ntmps23
  go_wp2_with fail
  refine (log_any base _ p c v C L HM.out hL).mono ?_
  rintro r w1 ⟨lv, rfl, hrow, hb1⟩
  obtain ⟨A, cap, rfl⟩ := own_shape hrow
  clear hrow
  go_wp2
  go_ret
  exact ⟨rfl, hb1⟩

set_option maxHeartbeats 2000000 in
theorem touched_some (who op next : Int) (i n : Nat) (e : Ev) (hn : L.length = n) (hM : IsMem base w p c v C (L ++ [e])) (hL : n ≤ 1000000) (h1 : e.who = who) (h2 : e.cell = i) (h3 : e.op = op) (h4 : e.new = next) (hx : C[i]? = some next) :
    Calls Try.prog 23 #[pt p, i64 n, i64 who, i64 i, i64 op, u64 next] w fun r w' => r = .returned (.bool true) ∧ Below w.heap.size w w' := by
  subst h1 h3 h4
  have HM := Lib.hid hM
  have HX := Lib.hid hx
  have HN := Lib.hid hn
  have H2 := Lib.hid h2
  clear hM hx hn h2
  go_enter Try.func23, Try.ntmps23
  go_wp2_with fail
  refine (log_any base _ p c v C _ HM.out (by rw [List.length_append, HN.out]; simp; omega)).mono ?_
  rintro r w1 ⟨lv, rfl, hrow, hb1⟩
  obtain ⟨A, cap, rfl⟩ := own_shape hrow
  obtain ⟨b, o, rfl, hbl, hc⟩ := AtE.row hrow (by simp)
  have hcell := hc n e (by rw [← HN.out]; simp)
  obtain ⟨k0, k1, k2, k3, k4, k5⟩ := hcell
  rw [H2.out] at k2
  have hlen : (L ++ [e]).length = n + 1 := by rw [List.length_append, HN.out]; rfl
  have hcap : n + 1 ≤ cap := by
    rcases hrow.2 with ⟨_, h0⟩ | ⟨g, cap', cur, hv, _, _, hnc, _⟩
    · simp at h0
    · cases hv
      rw [hlen] at hnc
      exact hnc
  rw [hlen]
  have HM1 := Lib.hid (HM.out.later hb1)
  have HB := Lib.hid hb1
  clear hrow hc hlen hb1
  go_wp2_with fail
  refine (peek_in base _ p c v C _ i e.new (HM1.out.later (below_new (Below.refl _ _) _)) HX.out).mono ?_
  rintro r w' ⟨rfl, rfl⟩
  go_wp2
  go_ret
  exact ⟨rfl, below_new HB.out _⟩
end

end Go.Proofs.Ytengomcanconfaa
