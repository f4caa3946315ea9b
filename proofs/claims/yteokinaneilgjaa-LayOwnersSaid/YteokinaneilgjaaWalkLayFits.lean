/-
  LayFits answers true for every layout, and leaves all memory that was there as it was. No condition.
-/
import Derived.Test.YteokinaneilgjaaLayCalls
namespace Go.Proofs.Yteokinaneilgjaa
open Go.RowKit
set_option linter.unusedVariables false

theorem lay_of_right {t s so d : Int} (h : rightC t s so d = true) : Lay t s (t * s) := by
  simp only [rightC, decide_eq_true_eq] at h
  exact Lay.mk' h.1 h.2.1 h.2.2.1 h.2.2.2.1

set_option maxHeartbeats 2000000 in
theorem walk_LayFits (t s so d : Int) (w : World) (w0_0 : (Lit.int .i64 t).wf = true) (w0_1 : (Lit.int .i64 s).wf = true) (w0_2 : (Lit.int .i64 so).wf = true) (w0_3 : (Lit.int .i64 d).wf = true) :
    Calls Try.prog 15 #[.agg #[.int .i64 t, .int .i64 s, .int .i64 so, .int .i64 d]] w fun e w' => e = .returned (.bool true) ∧ Below w.heap.size w w' := by
  clear w0_0 w0_1 w0_2 w0_3
  rcases Bool.eq_false_or_eq_true (rightC t s so d) with hr | hr
  · obtain ⟨n, hl⟩ : ∃ n, Lay t s n := ⟨_, lay_of_right hr⟩
    have hn1 := hl.n1; have hn2 := hl.n2; have ht1 := hl.t1; have ht2 := hl.t2
    have hw := hl.wrap
    have Hw := Lib.hid hw
    clear hw
    go_enter Try.func15, Try.ntmps15
    go_wp2_with fail
    refine (head4_any _).mono ?_
    rintro e w1 ⟨rfl, hb1⟩
    have hk1 := below_rule hb1
    go_wp2_with fail
    refine (cright_any _ _ _ _ _).mono ?_
    rintro e w2 ⟨rfl, hb2⟩
    have hB := below_step hb1 hb2
    clear hb1 hb2 hk1
    have hk1 := below_rule hB
    go_wp2_with fail
    rw [Hw.out]
    have e1 : IntKind.i64.wrap (2 * n) = 2 * n := IntWalk.i64_in _ (by omega)
    have e2 : IntKind.i64.wrap (2 * t) = 2 * t := IntWalk.i64_in _ (by omega)
    have e3 : IntKind.i64.wrap (2 * n + 2 * t) = 2 * n + 2 * t := IntWalk.i64_in _ (by omega)
    have e4 : IntKind.i64.wrap (t - 1) = t - 1 := IntWalk.i64_in _ (by omega)
    have e5 : IntKind.i64.wrap (2 * n + 2 * t - 1) = 2 * n + 2 * t - 1 := IntWalk.i64_in _ (by omega)
    have e6 : IntKind.i64.wrap (2 * n + t) = 2 * n + t := IntWalk.i64_in _ (by omega)
    have e7 : 2 * n + t + (t - 1) = 2 * n + 2 * t - 1 := by omega
    have i1 : 0 ≤ t - 1 := by omega
    have i2 : t - 1 ≤ t := by omega
    have i3 : 0 ≤ n := by omega
    have i4 : 0 ≤ t := by omega
    have i5 : decide (2 * n + 2 * t ≤ 65536) = true := decide_eq_true (by omega)
    refine wp_region_seq ((0, true) :: (2, true) :: (3, true) :: (4, true) :: (5, true) :: (6, true) :: (7, true) :: (1, false) :: (8, true) :: (9, true) :: (10, true) :: (11, false) :: (12, true) :: (13, true) :: (14, true) :: (15, true) :: (16, true) :: (17, true) :: (18, true) :: (20, true) :: (19, false) :: (21, false) :: (22, true) :: (23, true) :: (24, true) :: (25, true) :: (26, true) :: (27, false) :: (28, true) :: (29, true) :: (30, true) :: (31, true) :: (33, true) :: (32, false) :: (34, true) :: (35, true) :: (36, true) :: (37, true) :: (39, true) :: (40, true) :: (38, false) :: (41, true) :: (42, true) :: (43, true) :: (44, true) :: (46, true) :: (47, true) :: (48, true) :: (49, true) :: (50, true) :: (45, false) :: (51, true) :: (52, true) :: (53, true) :: (54, true) :: (55, false) :: (56, true) :: (57, true) :: (58, true) :: []) (by kernel_rfl) (by kernel_rfl) (by kernel_rfl) (by decide) (fun _ _ _ _ _ h => h) (fun hHeld => ?_)
    repeat (first
      | (refine seq_take (v := ?_) rfl ?_ ?_ ?_; rotate_left 1; rfl; (focus (intro wS hSw; have hk := below_rule hSw; go_simp; first | done | with_reducible rfl)); (try simp only [Act.put, List.setIfInBounds_toArray, List.set_cons_zero, List.set_cons_succ]))
      | (refine seq_skip rfl ?_ ?_; rfl; (try simp only [Act.put, List.setIfInBounds_toArray, List.set_cons_zero, List.set_cons_succ]))
      | (refine seq_run rfl (fun K hK => ?_); go_simp; (try (first | (go_at_call 35; refine (ccells_any _ _ _ _ n _ hl).mono ?_; rintro e w' ⟨rfl, hb'⟩) | (go_at_call 32; refine (cvalue_any _ _ _ _ n _ _ hl (by decide) i3).mono ?_; rintro e w' ⟨rfl, hb'⟩) | (go_at_call 33; refine (chazard_any _ _ _ _ n _ _ hl (by decide) i4).mono ?_; rintro e w' ⟨rfl, hb'⟩) | (go_at_call 34; refine (cnumber_any _ _ _ _ n _ _ hl (by first | exact i1 | decide) (by first | exact i2 | exact i4)).mono ?_; rintro e w' ⟨rfl, hb'⟩) | (go_at_call 31; refine (cword_any _ _ _ _ _ _).mono ?_; rintro e w' ⟨rfl, hb'⟩) | (go_at_call 37; refine (cfirst_any _ _ _ _ n 0 0 _ hl (by decide) (by omega) (by omega) (by decide) i3).mono ?_; rintro e w' ⟨rfl, hb'⟩))); (try go_wp2_with fail); refine hK.out _ _ ?_ ?_; (focus (first | exact below_step hHeld hb' | exact below_new hHeld _ | exact hHeld)); (try clear hb'); clear hHeld hK K; intro hHeld; (try simp only [Act.put, List.setIfInBounds_toArray, List.set_cons_zero, List.set_cons_succ])))
    first | refine seq_done ?_ | skip
    go_wp2
    go_ret
    exact ⟨by first | rfl | (simp; done), below_step (below_step (below_new (Below.refl _ _) _) hB) hHeld⟩
  ·
    go_enter Try.func15, Try.ntmps15
    go_wp2_with fail
    refine (head4_any _).mono ?_
    rintro e w1 ⟨rfl, hb1⟩
    have hk1 := below_rule hb1
    go_wp2_with fail
    refine (cright_any _ _ _ _ _).mono ?_
    rintro e w2 ⟨rfl, hb2⟩
    go_wp2_with fail
    go_ret
    exact ⟨rfl, below_step (below_new (Below.refl _ _) _) (below_step hb1 hb2)⟩

end Go.Proofs.Yteokinaneilgjaa
