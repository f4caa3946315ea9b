/-
  The contracts of hist's small ones: whether a call is over, and whether it was over ahead of another one. No condition.
-/
import Derived.Test.YtgoncakjkippkabHistPure
import Derived.Test.YtgoncakjkippkabRegionT
namespace Go.Proofs.Ytgoncakjkippkab
open Go.RowKit
set_option linter.unusedVariables false

theorem over_any (w : World) (d : Dd) : Calls Try.prog 36 #[d.val] w fun e w' => e = .returned (.bool (decide (0 ≤ d.till))) ∧ Below w.heap.size w w' := by
  go_enter Try.func36, Try.ntmps36
  go_wp2_with fail
  go_ret
  exact ⟨rfl, (Below.refl _ _).alloc (Nat.le_refl _) _⟩
theorem hbefore_any (w : World) (a b : Dd) : Calls Try.prog 35 #[a.val, b.val] w fun e w' => e = .returned (.bool (decide (dBef a b))) ∧ Below w.heap.size w w' := by
  by_cases h : 0 ≤ a.till
  case pos =>
    have e1 : decide (0 ≤ a.till) = true := decide_eq_true h
    have e2 : decide (dBef a b) = decide (a.till < b.fr) := decide_eq_decide.2 ⟨fun h => h.2, fun h2 => ⟨h, h2⟩⟩
    go_enter Try.func35, Try.ntmps35
    go_wp2_with fail
    refine (over_any _ a).mono ?_
    rintro e w' ⟨rfl, hb⟩
    have hk := below_rule hb
    go_wp2_with fail
    go_ret
    exact ⟨by rw [e2]; rfl, ((Below.refl _ _).alloc (Nat.le_refl _) _).alloc (by simp) _ |>.trans (hb.mono (by simp; omega))⟩
  case neg =>
    have e1 : decide (0 ≤ a.till) = false := decide_eq_false h
    have e2 : decide (dBef a b) = false := decide_eq_false (fun hh => h hh.1)
    go_enter Try.func35, Try.ntmps35
    go_wp2_with fail
    refine (over_any _ a).mono ?_
    rintro e w' ⟨rfl, hb⟩
    have hk := below_rule hb
    go_wp2_with fail
    go_ret
    exact ⟨by rw [e2]; rfl, ((Below.refl _ _).alloc (Nat.le_refl _) _).alloc (by simp) _ |>.trans (hb.mono (by simp; omega))⟩
end Go.Proofs.Ytgoncakjkippkab
