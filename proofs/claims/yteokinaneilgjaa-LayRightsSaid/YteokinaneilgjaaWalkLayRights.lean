/-
  LayRights answers true for every layout, and leaves all memory that was there as it was. No condition.
-/
import Derived.Test.YteokinaneilgjaaLayCalls
namespace Go.Proofs.Yteokinaneilgjaa
open Go.RowKit
set_option linter.unusedVariables false

theorem rights_parts (t s so d : Int) : (0 < t ∧ t < 65 ∧ 0 < s ∧ s < 65 ∧ 0 ≤ so ∧ so < 5 ∧ 0 ≤ d ∧ d < 101 ∧ rightC t s so d = true) ∨
    (rightC t s so d = false ∧ (decide (0 < t) = false ∨ (0 < t ∧ decide (t < 65) = false) ∨ (0 < t ∧ t < 65 ∧ decide (0 < s) = false) ∨ (0 < t ∧ t < 65 ∧ 0 < s ∧ decide (s < 65) = false) ∨ (0 < t ∧ t < 65 ∧ 0 < s ∧ s < 65 ∧ decide (0 ≤ so) = false) ∨ (0 < t ∧ t < 65 ∧ 0 < s ∧ s < 65 ∧ 0 ≤ so ∧ decide (so < 5) = false) ∨
      (0 < t ∧ t < 65 ∧ 0 < s ∧ s < 65 ∧ 0 ≤ so ∧ so < 5 ∧ decide (0 ≤ d) = false) ∨ (0 < t ∧ t < 65 ∧ 0 < s ∧ s < 65 ∧ 0 ≤ so ∧ so < 5 ∧ 0 ≤ d ∧ decide (d < 101) = false))) := by
  simp only [rightC, decide_eq_true_eq, decide_eq_false_iff_not]
  omega

set_option maxHeartbeats 2000000 in
theorem walk_LayRights (t s so d : Int) (w : World) (w0_0 : (Lit.int .i64 t).wf = true) (w0_1 : (Lit.int .i64 s).wf = true) (w0_2 : (Lit.int .i64 so).wf = true) (w0_3 : (Lit.int .i64 d).wf = true) :
    Calls Try.prog 11 #[.agg #[.int .i64 t, .int .i64 s, .int .i64 so, .int .i64 d]] w fun e w' => e = .returned (.bool true) ∧ Below w.heap.size w w' := by
  clear w0_0 w0_1 w0_2 w0_3
  rcases rights_parts t s so d with ⟨h1, h2, h3, h4, h5, h6, h7, h8, hr⟩ | ⟨hr, h1 | ⟨h1, h2⟩ | ⟨h1, h2, h3⟩ | ⟨h1, h2, h3, h4⟩ | ⟨h1, h2, h3, h4, h5⟩ | ⟨h1, h2, h3, h4, h5, h6⟩ | ⟨h1, h2, h3, h4, h5, h6, h7⟩ | ⟨h1, h2, h3, h4, h5, h6, h7, h8⟩⟩
  all_goals
    go_enter Try.func11, Try.ntmps11
    go_wp2_with fail
    refine (head4_any _).mono ?_
    rintro e w1 ⟨rfl, hb1⟩
    have hk1 := below_rule hb1
    go_wp2_with fail
    refine wp_region_seq ((0, true) :: (2, true) :: (3, true) :: (4, true) :: (1, false) :: (5, true) :: (6, true) :: (7, true) :: (8, true) :: (9, true) :: (10, true) :: (11, true) :: (12, true) :: (13, true) :: (14, true) :: (15, true) :: (16, true) :: (17, true) :: (18, true) :: (19, true) :: (20, true) :: (21, true) :: (22, true) :: (23, true) :: (24, true) :: (25, true) :: (26, true) :: (27, true) :: (28, true) :: (29, true) :: (30, true) :: (31, true) :: (32, true) :: (33, true) :: (34, true) :: (35, true) :: (36, true) :: (37, true) :: (38, true) :: (39, true) :: []) (by kernel_rfl) (by kernel_rfl) (by kernel_rfl) (by decide) (fun _ _ _ _ _ h => h) (fun hHeld => ?_)
    repeat (first
      | (refine seq_take (v := ?_) rfl ?_ ?_ ?_; rotate_left 1; rfl; (focus (intro wS hSw; have hk := below_rule hSw; go_simp; first | done | with_reducible rfl)); (try simp only [Act.put, List.setIfInBounds_toArray, List.set_cons_zero, List.set_cons_succ]))
      | (refine seq_skip rfl ?_ ?_; rfl; (try simp only [Act.put, List.setIfInBounds_toArray, List.set_cons_zero, List.set_cons_succ]))
      | (refine seq_run rfl (fun K hK => ?_); go_simp; (try (first | (go_at_call 29; refine (cright_any _ _ _ _ _).mono ?_; rintro e w' ⟨rfl, hb'⟩))); (try go_wp2_with fail); refine hK.out _ _ ?_ ?_; (focus (first | exact below_step hHeld hb' | exact below_new hHeld _ | exact hHeld)); (try clear hb'); clear hHeld hK K; intro hHeld; (try simp only [Act.put, List.setIfInBounds_toArray, List.set_cons_zero, List.set_cons_succ])))
    first | refine seq_done ?_ | skip
    go_wp2
    go_ret
    exact ⟨ret_bool (by first | rfl | (simp only [Bool.not_eq_true', decide_eq_true_eq, decide_eq_false_iff_not]; omega) | simp_all), below_step (below_step (below_new (Below.refl _ _) _) hb1) hHeld⟩

end Go.Proofs.Yteokinaneilgjaa
