/-
  StampJoins answers true for every three stamps, and leaves all memory that was there as it was. No condition.
-/
import Derived.Test.YtlhacbhdajjkhaaStampCalls2
import Derived.Test.YtlhacbhdajjkhaaRegion
namespace Go.Proofs.Ytlhacbhdajjkhaa
open Go.RowKit

theorem minZ_comm (a b : Int) : minZ a b = minZ b a := by unfold minZ; omega
theorem maxZ_comm (a b : Int) : maxZ a b = maxZ b a := by unfold maxZ; omega
theorem minZ_again (a b : Int) : minZ (minZ a b) a = minZ a b := by unfold minZ; omega
theorem maxZ_again (a b : Int) : maxZ (maxZ a b) a = maxZ a b := by unfold maxZ; omega
theorem minZ_assoc (a b c : Int) : minZ (minZ a b) c = minZ a (minZ b c) := by unfold minZ; omega
theorem maxZ_assoc (a b c : Int) : maxZ (maxZ a b) c = maxZ a (maxZ b c) := by unfold maxZ; omega
theorem minZ_self (a : Int) : minZ a a = a := by unfold minZ; omega
theorem maxZ_self (a : Int) : maxZ a a = a := by unfold maxZ; omega
theorem maxZ_lt (b d e : Int) : decide (maxZ b d < e) = (decide (b < e) && decide (d < e)) := by
  rw [Bool.eq_iff_iff]
  simp only [Bool.and_eq_true, decide_eq_true_eq]
  unfold maxZ
  omega
theorem lt_minZ (a c f : Int) : decide (f < minZ a c) = (decide (f < a) && decide (f < c)) := by
  rw [Bool.eq_iff_iff]
  simp only [Bool.and_eq_true, decide_eq_true_eq]
  unfold minZ
  omega

set_option maxHeartbeats 2000000 in
theorem walk_StampJoins (a b c d e f : Int) (w : World) (_w0_0 : (Lit.int .i64 a).wf = true) (_w0_1 : (Lit.int .i64 b).wf = true) (_w1_0 : (Lit.int .i64 c).wf = true) (_w1_1 : (Lit.int .i64 d).wf = true) (_w2_0 : (Lit.int .i64 e).wf = true) (_w2_1 : (Lit.int .i64 f).wf = true) :
    Calls Try.prog 7 #[st a b, st c d, st e f] w fun e w' => e = .returned (.bool true) ∧ Below w.heap.size w w' := by
  clear _w0_0 _w0_1 _w1_0 _w1_1 _w2_0 _w2_1
  have q0 : (((w.alloc (.cells #[.int .i64 a, .int .i64 b] 23)).alloc (.cells #[.int .i64 c, .int .i64 d] 23)).alloc (.cells #[.int .i64 e, .int .i64 f] 23)).cell? ⟨w.heap.size, 0, none⟩ = some (i64 a) := by go_simp
  have q1 : (((w.alloc (.cells #[.int .i64 a, .int .i64 b] 23)).alloc (.cells #[.int .i64 c, .int .i64 d] 23)).alloc (.cells #[.int .i64 e, .int .i64 f] 23)).cell? ⟨w.heap.size, 1, none⟩ = some (i64 b) := by go_simp
  have q2 : (((w.alloc (.cells #[.int .i64 a, .int .i64 b] 23)).alloc (.cells #[.int .i64 c, .int .i64 d] 23)).alloc (.cells #[.int .i64 e, .int .i64 f] 23)).cell? ⟨w.heap.size + 1, 0, none⟩ = some (i64 c) := by go_simp
  have q3 : (((w.alloc (.cells #[.int .i64 a, .int .i64 b] 23)).alloc (.cells #[.int .i64 c, .int .i64 d] 23)).alloc (.cells #[.int .i64 e, .int .i64 f] 23)).cell? ⟨w.heap.size + 1, 1, none⟩ = some (i64 d) := by go_simp
  have q4 : (((w.alloc (.cells #[.int .i64 a, .int .i64 b] 23)).alloc (.cells #[.int .i64 c, .int .i64 d] 23)).alloc (.cells #[.int .i64 e, .int .i64 f] 23)).cell? ⟨w.heap.size + 1 + 1, 0, none⟩ = some (i64 e) := by go_simp
  have q5 : (((w.alloc (.cells #[.int .i64 a, .int .i64 b] 23)).alloc (.cells #[.int .i64 c, .int .i64 d] 23)).alloc (.cells #[.int .i64 e, .int .i64 f] 23)).cell? ⟨w.heap.size + 1 + 1, 1, none⟩ = some (i64 f) := by go_simp
  have m1 := beq_iff_eq.2 (minZ_comm a c)
  have m2 := beq_iff_eq.2 (maxZ_comm b d)
  have m3 := beq_iff_eq.2 (minZ_again a c)
  have m4 := beq_iff_eq.2 (maxZ_again b d)
  have m5 := beq_iff_eq.2 (minZ_assoc a c e)
  have m6 := beq_iff_eq.2 (maxZ_assoc b d f)
  have m7 := beq_iff_eq.2 (minZ_self a)
  have m8 := beq_iff_eq.2 (maxZ_self b)
  have m9 := maxZ_lt b d e
  have m10 := lt_minZ a c f
  rcases Bool.eq_false_or_eq_true (decide (b < e)) with g1 | g1
  all_goals rcases Bool.eq_false_or_eq_true (decide (f < a)) with g2 | g2
  all_goals
    rw [g1] at m9
    rw [g2] at m10
    simp only [Bool.true_and, Bool.false_and] at m9 m10
    go_enter Try.func7, Try.ntmps7
    go_wp2_with fail
    refine (head1_any _).mono ?_
    rintro e w1 ⟨rfl, hb1⟩
    replace q0 := cell_later hb1 q0
    replace q1 := cell_later hb1 q1
    replace q2 := cell_later hb1 q2
    replace q3 := cell_later hb1 q3
    replace q4 := cell_later hb1 q4
    replace q5 := cell_later hb1 q5
    go_wp2_with fail
    refine (join_any _ _ _ _ _).mono ?_
    rintro e w2 ⟨rfl, hb2⟩
    replace q0 := cell_later hb2 q0
    replace q1 := cell_later hb2 q1
    replace q2 := cell_later hb2 q2
    replace q3 := cell_later hb2 q3
    replace q4 := cell_later hb2 q4
    replace q5 := cell_later hb2 q5
    have hz : w.heap.size + 1 + 1 < w2.heap.size := by have e1 := hb1.size; have e2 := hb2.size; simp at e1; omega
    have n1 : w.heap.size + 1 < w2.heap.size := by omega
    have n0 : w.heap.size < w2.heap.size := by omega
    go_wp2_with fail
    refine wp_region_seq ((0, true) :: (1, true) :: (2, true) :: (3, false) :: (4, true) :: (5, true) :: (6, true) :: (7, true) :: (9, true) :: (8, false) :: (10, true) :: (11, true) :: (12, true) :: (13, true) :: (14, true) :: (16, true) :: (18, true) :: (19, true) :: (20, true) :: (15, false) :: (17, false) :: (21, false) :: (22, false) :: (23, true) :: (24, true) :: (25, true) :: (26, true) :: (27, true) :: (29, true) :: (28, false) :: (30, true) :: (31, true) :: []) (by kernel_rfl) (by kernel_rfl) (by kernel_rfl) (by decide) (fun _ _ _ _ _ h => h) (fun hHeld => ?_)
    repeat (first
      | (refine seq_take (v := ?_) rfl ?_ ?_ ?_; rotate_left 1; rfl; (focus (intro wS hSw; have hk := below_rule hSw; go_simp; first | done | with_reducible rfl)); (try simp only [Act.put, List.setIfInBounds_toArray, List.set_cons_zero, List.set_cons_succ]))
      | (refine seq_skip rfl ?_ ?_; rfl; (try simp only [Act.put, List.setIfInBounds_toArray, List.set_cons_zero, List.set_cons_succ]))
      | (refine seq_run rfl (fun K hK => ?_); go_simp; (try (first | (go_at_call 17; refine (before_any _ _ _ _ _).mono ?_; rintro e w' ⟨rfl, hb'⟩) | (go_at_call 18; refine (apart_any _ _ _ _ _).mono ?_; rintro e w' ⟨rfl, hb'⟩) | (go_at_call 19; refine (compare_any _ _ _ _ _).mono ?_; rintro e w' ⟨rfl, hb'⟩) | (go_at_call 21; refine (right_any _ _ _).mono ?_; rintro e w' ⟨rfl, hb'⟩) | (go_at_call 16; refine (join_any _ _ _ _ _).mono ?_; rintro e w' ⟨rfl, hb'⟩))); (try go_wp2_with fail); refine hK.out _ _ ?_ ?_; (focus (first | exact below_step hHeld hb' | exact below_new hHeld _ | exact hHeld)); (try clear hb'); clear hHeld hK K; intro hHeld; (try simp only [Act.put, List.setIfInBounds_toArray, List.set_cons_zero, List.set_cons_succ])))
    first | refine seq_done ?_ | skip
    have q6 := cell_later hHeld (World.cell?_alloc_new w2 #[.int .i64 (minZ a c), .int .i64 (maxZ b d)] 23 0)
    have q7 := cell_later hHeld (World.cell?_alloc_new w2 #[.int .i64 (minZ a c), .int .i64 (maxZ b d)] 23 1)
    replace q0 := cell_later hHeld (World.cell?_alloc_some w2 _ _ (by rw [q0]; rfl) |>.trans q0)
    replace q1 := cell_later hHeld (World.cell?_alloc_some w2 _ _ (by rw [q1]; rfl) |>.trans q1)
    replace q2 := cell_later hHeld (World.cell?_alloc_some w2 _ _ (by rw [q2]; rfl) |>.trans q2)
    replace q3 := cell_later hHeld (World.cell?_alloc_some w2 _ _ (by rw [q3]; rfl) |>.trans q3)
    replace q4 := cell_later hHeld (World.cell?_alloc_some w2 _ _ (by rw [q4]; rfl) |>.trans q4)
    replace q5 := cell_later hHeld (World.cell?_alloc_some w2 _ _ (by rw [q5]; rfl) |>.trans q5)
    have hH := Lib.hid hHeld
    clear hHeld
    go_wp2_with fail
    refine wp_region_seq ((0, true) :: (1, true) :: (3, true) :: (4, true) :: (2, false) :: (5, false) :: (6, true) :: (7, true) :: (8, true) :: (9, false) :: (10, true) :: (11, true) :: (12, true) :: (13, true) :: (14, true) :: (16, true) :: (17, true) :: (15, false) :: (18, false) :: (19, true) :: (20, true) :: (21, true) :: (22, false) :: (23, true) :: (24, true) :: (25, true) :: (26, true) :: []) (by kernel_rfl) (by kernel_rfl) (by kernel_rfl) (by decide) (fun _ _ _ _ _ h => h) (fun hHeld => ?_)
    repeat (first
      | (refine seq_take (v := ?_) rfl ?_ ?_ ?_; rotate_left 1; rfl; (focus (intro wS hSw; have hk := below_rule hSw; go_simp; first | done | with_reducible rfl)); (try simp only [Act.put, List.setIfInBounds_toArray, List.set_cons_zero, List.set_cons_succ]))
      | (refine seq_skip rfl ?_ ?_; rfl; (try simp only [Act.put, List.setIfInBounds_toArray, List.set_cons_zero, List.set_cons_succ]))
      | (refine seq_run rfl (fun K hK => ?_); go_simp; (try (first | (go_at_call 17; refine (before_any _ _ _ _ _).mono ?_; rintro e w' ⟨rfl, hb'⟩) | (go_at_call 18; refine (apart_any _ _ _ _ _).mono ?_; rintro e w' ⟨rfl, hb'⟩) | (go_at_call 19; refine (compare_any _ _ _ _ _).mono ?_; rintro e w' ⟨rfl, hb'⟩) | (go_at_call 21; refine (right_any _ _ _).mono ?_; rintro e w' ⟨rfl, hb'⟩) | (go_at_call 16; refine (join_any _ _ _ _ _).mono ?_; rintro e w' ⟨rfl, hb'⟩))); (try go_wp2_with fail); refine hK.out _ _ ?_ ?_; (focus (first | exact below_step hHeld hb' | exact below_new hHeld _ | exact hHeld)); (try clear hb'); clear hHeld hK K; intro hHeld; (try simp only [Act.put, List.setIfInBounds_toArray, List.set_cons_zero, List.set_cons_succ])))
    first | refine seq_done ?_ | skip
    go_wp2
    go_ret
    refine ⟨rfl, ?_⟩
    exact below_step (below_step (below_new (below_step (below_step (below_new (below_new (below_new (Below.refl _ _) _) _) _) hb1) hb2) _) hH.out) hHeld

end Go.Proofs.Ytlhacbhdajjkhaa
