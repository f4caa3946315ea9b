/-
  StampPairs answers true for every two stamps, and leaves all memory that was there as it was. No condition.
-/
import Derived.Test.YtlhacbhdajjkhaaStampCalls2
import Derived.Test.YtlhacbhdajjkhaaRegion
namespace Go.Proofs.Ytlhacbhdajjkhaa
open Go.RowKit

set_option maxHeartbeats 1000000 in
theorem walk_StampPairs (a b c d : Int) (w : World) (_w0_0 : (Lit.int .i64 a).wf = true) (_w0_1 : (Lit.int .i64 b).wf = true) (_w1_0 : (Lit.int .i64 c).wf = true) (_w1_1 : (Lit.int .i64 d).wf = true) :
    Calls Try.prog 3 #[st a b, st c d] w fun e w' => e = .returned (.bool true) ∧ Below w.heap.size w w' := by
  clear _w0_0 _w0_1 _w1_0 _w1_1
  have q0 : ((w.alloc (.cells #[.int .i64 a, .int .i64 b] 23)).alloc (.cells #[.int .i64 c, .int .i64 d] 23)).cell? ⟨w.heap.size, 0, none⟩ = some (i64 a) := by go_simp
  have q1 : ((w.alloc (.cells #[.int .i64 a, .int .i64 b] 23)).alloc (.cells #[.int .i64 c, .int .i64 d] 23)).cell? ⟨w.heap.size, 1, none⟩ = some (i64 b) := by go_simp
  have q2 : ((w.alloc (.cells #[.int .i64 a, .int .i64 b] 23)).alloc (.cells #[.int .i64 c, .int .i64 d] 23)).cell? ⟨w.heap.size + 1, 0, none⟩ = some (i64 c) := by go_simp
  have q3 : ((w.alloc (.cells #[.int .i64 a, .int .i64 b] 23)).alloc (.cells #[.int .i64 c, .int .i64 d] 23)).cell? ⟨w.heap.size + 1, 1, none⟩ = some (i64 d) := by go_simp
  have ha : apartB a b c d = (decide (b < c) || decide (d < a)) := rfl
  rcases Bool.eq_false_or_eq_true (decide (b < c)) with hd | hd
  all_goals
    rw [hd] at ha
    simp only [Bool.true_or, Bool.false_or] at ha
    go_enter Try.func3, Try.ntmps3
    go_wp2_with fail
    refine (head1_any _).mono ?_
    rintro e w1 ⟨rfl, hb1⟩
    replace q0 := cell_later hb1 q0
    replace q1 := cell_later hb1 q1
    replace q2 := cell_later hb1 q2
    replace q3 := cell_later hb1 q3
    go_wp2_with fail
    refine (join_any _ _ _ _ _).mono ?_
    rintro e w2 ⟨rfl, hb2⟩
    replace q0 := cell_later hb2 q0
    replace q1 := cell_later hb2 q1
    replace q2 := cell_later hb2 q2
    replace q3 := cell_later hb2 q3
    have hz : w.heap.size + 1 < w2.heap.size := by have e1 := hb1.size; have e2 := hb2.size; simp at e1; omega
    have n0 : w.heap.size < w2.heap.size := by omega
    go_upto_if 20 with (fail)
    go_cut [6] (fun s6 wx => s6 = i64 (minZ a c) ∧ w2.alloc (.cells #[.int .i64 (minZ a c), .int .i64 (maxZ b d)] 23) = wx)
    case first =>
      go_wp2
      all_goals (go_meet; exact ⟨by unfold minZ; congr 1; omega, rfl⟩)
    case rest =>
      obtain ⟨rfl, rfl⟩ := hcut
      go_upto_if 28 with (fail)
      go_cut [7] (fun s7 wx => s7 = i64 (maxZ b d) ∧ w2.alloc (.cells #[.int .i64 (minZ a c), .int .i64 (maxZ b d)] 23) = wx)
      case first =>
        go_wp2
        all_goals (go_meet; exact ⟨by unfold maxZ; congr 1; omega, rfl⟩)
      case rest =>
        obtain ⟨rfl, rfl⟩ := hcut
        go_wp2_with fail
        refine wp_region_seq ((0, true) :: (1, true) :: (3, true) :: (2, false) :: (4, true) :: (5, true) :: (6, true) :: (7, true) :: (9, true) :: (8, false) :: (10, true) :: (11, true) :: (12, true) :: (13, true) :: (14, true) :: (16, true) :: (15, false) :: (17, true) :: (18, true) :: (19, true) :: (20, true) :: (21, true) :: (22, true) :: (23, true) :: (24, true) :: (26, true) :: (27, true) :: (25, false) :: (28, false) :: (29, true) :: (30, true) :: (31, true) :: (32, true) :: (33, true) :: (34, true) :: (35, true) :: (36, true) :: (37, true) :: (38, true) :: []) (by kernel_rfl) (by kernel_rfl) (by kernel_rfl) (by decide) (fun _ _ _ _ _ h => h) (fun hHeld => ?_)
        repeat (first
          | (refine seq_take (v := ?_) rfl ?_ ?_ ?_; rotate_left 1; rfl; (focus (intro wS hSw; have hk := below_rule hSw; go_simp; first | done | with_reducible rfl)); (try simp only [Act.put, List.setIfInBounds_toArray, List.set_cons_zero, List.set_cons_succ]))
          | (refine seq_skip rfl ?_ ?_; rfl; (try simp only [Act.put, List.setIfInBounds_toArray, List.set_cons_zero, List.set_cons_succ]))
          | (refine seq_run rfl (fun K hK => ?_); go_simp; (try (first | (go_at_call 17; refine (before_any _ _ _ _ _).mono ?_; rintro e w' ⟨rfl, hb'⟩) | (go_at_call 18; refine (apart_any _ _ _ _ _).mono ?_; rintro e w' ⟨rfl, hb'⟩) | (go_at_call 19; refine (compare_any _ _ _ _ _).mono ?_; rintro e w' ⟨rfl, hb'⟩) | (go_at_call 20; refine (lawcompare_any _ _ _ _ _).mono ?_; rintro e w' ⟨rfl, hb'⟩))); (try go_wp2_with fail); refine hK.out _ _ ?_ ?_; (focus (first | exact below_step hHeld hb' | exact below_new hHeld _ | exact hHeld)); (try clear hb'); clear hHeld hK K; intro hHeld; (try simp only [Act.put, List.setIfInBounds_toArray, List.set_cons_zero, List.set_cons_succ])))
        first | refine seq_done ?_ | skip
        go_wp2
        go_ret
        refine ⟨rfl, ?_⟩
        repeat (first | exact Below.refl _ _ | exact below_new (below_new (Below.refl _ _) _) _ | refine below_step ?_ (by assumption) | refine below_new ?_ _ | refine Below.drew ?_)

end Go.Proofs.Ytlhacbhdajjkhaa
