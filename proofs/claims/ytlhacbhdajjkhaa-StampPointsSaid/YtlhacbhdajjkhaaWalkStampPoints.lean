/-
  StampPoints answers true for every two numbers, and leaves all memory that was there as it was. No condition.
-/
import Derived.Test.YtlhacbhdajjkhaaStampCalls2
import Derived.Test.YtlhacbhdajjkhaaRegion
namespace Go.Proofs.Ytlhacbhdajjkhaa
open Go.RowKit

theorem points_apart (a b : Int) : (apartB a a b b == (a != b)) = true := by
  rw [beq_iff_eq, Bool.eq_iff_iff]
  simp [apartB]
  omega
theorem points_less (a b : Int) : (decide (cmpS a a b b < 0) == decide (a < b)) = true := by
  rw [beq_iff_eq, decide_eq_decide, cmpS_eq]
  repeat' split
  all_goals omega
theorem points_right (a b : Int) : rightB (minZ a b) (maxZ a b) = (rightB a a && rightB b b) := by
  rw [Bool.eq_iff_iff]
  simp only [rightB, Bool.and_eq_true, decide_eq_true_eq]
  unfold minZ maxZ
  omega

set_option maxHeartbeats 2000000 in
theorem walk_StampPoints (a b : Int) (w : World) (_w0 : (Lit.int .i64 a).wf = true) (_w1 : (Lit.int .i64 b).wf = true) :
    Calls Try.prog 9 #[.int .i64 a, .int .i64 b] w fun e w' => e = .returned (.bool true) ∧ Below w.heap.size w w' := by
  clear _w0 _w1
  have f2 := points_apart a b
  have f3 := points_less a b
  have f4 := points_right a b
  rcases Bool.eq_false_or_eq_true (rightB a a) with g1 | g1
  all_goals
    rw [g1] at f4
    simp only [Bool.true_and, Bool.false_and] at f4
    go_enter Try.func9, Try.ntmps9
    go_wp2_with fail
    refine (head1_any _).mono ?_
    rintro e w1 ⟨rfl, hb1⟩
    go_wp2_with fail
    refine wp_region_seq ((0, true) :: (1, true) :: (3, true) :: (4, true) :: (5, true) :: (2, false) :: (6, true) :: (7, true) :: (8, true) :: (9, true) :: (11, true) :: (12, true) :: (13, true) :: (10, false) :: (14, true) :: (15, true) :: (16, true) :: (17, true) :: (18, true) :: (21, true) :: (22, true) :: (23, true) :: (19, false) :: (20, true) :: (24, true) :: (25, true) :: (26, true) :: (27, true) :: (28, true) :: (31, true) :: (29, false) :: (30, false) :: (32, false) :: (33, true) :: (34, true) :: (35, false) :: (36, true) :: (37, true) :: (38, true) :: (39, true) :: []) (by kernel_rfl) (by kernel_rfl) (by kernel_rfl) (by decide) (fun _ _ _ _ _ h => h) (fun hHeld => ?_)
    repeat (first
      | (refine seq_take (v := ?_) rfl ?_ ?_ ?_; rotate_left 1; rfl; (focus (intro wS hSw; have hk := below_rule hSw; go_simp; first | done | with_reducible rfl)); (try simp only [Act.put, List.setIfInBounds_toArray, List.set_cons_zero, List.set_cons_succ]))
      | (refine seq_skip rfl ?_ ?_; rfl; (try simp only [Act.put, List.setIfInBounds_toArray, List.set_cons_zero, List.set_cons_succ]))
      | (refine seq_run rfl (fun K hK => ?_); go_simp; (try (first | (go_at_call 17; refine (before_any _ _ _ _ _).mono ?_; rintro e w' ⟨rfl, hb'⟩) | (go_at_call 18; refine (apart_any _ _ _ _ _).mono ?_; rintro e w' ⟨rfl, hb'⟩) | (go_at_call 19; refine (compare_any _ _ _ _ _).mono ?_; rintro e w' ⟨rfl, hb'⟩) | (go_at_call 21; refine (right_any _ _ _).mono ?_; rintro e w' ⟨rfl, hb'⟩) | (go_at_call 16; refine (join_any _ _ _ _ _).mono ?_; rintro e w' ⟨rfl, hb'⟩))); (try go_wp2_with fail); refine hK.out _ _ ?_ ?_; (focus (first | exact below_step hHeld hb' | exact below_new hHeld _ | exact hHeld)); (try clear hb'); clear hHeld hK K; intro hHeld; (try simp only [Act.put, List.setIfInBounds_toArray, List.set_cons_zero, List.set_cons_succ])))
    first | refine seq_done ?_ | skip
    go_wp2
    go_ret
    refine ⟨rfl, ?_⟩
    exact below_step (below_new (below_new (below_step (Below.refl _ _) hb1) _) _) hHeld

end Go.Proofs.Ytlhacbhdajjkhaa
