/-
  StampOrder answers true for every three stamps, and leaves all memory that was there as it was. No condition.
-/
import Derived.Test.YtlhacbhdajjkhaaWalkStampRights
namespace Go.Proofs.Ytlhacbhdajjkhaa
open Go.RowKit

theorem cmpS_bd (a b c d : Int) : -1 ≤ cmpS a b c d ∧ cmpS a b c d ≤ 1 := by
  rw [cmpS_eq]
  repeat' split
  all_goals omega
theorem cmpS_neg (a b c d : Int) : cmpS a b c d = -cmpS c d a b := by
  rw [cmpS_eq, cmpS_eq]
  repeat' split
  all_goals omega
theorem cmpS_trans (a b c d e f : Int) (h1 : cmpS a b c d ≤ 0) (h2 : cmpS c d e f ≤ 0) : cmpS a b e f ≤ 0 := by
  rw [cmpS_eq] at *
  revert h1 h2
  repeat' split
  all_goals omega
theorem rightB_iff {a b : Int} (h : rightB a b = true) : 0 ≤ a ∧ a ≤ b ∧ b < 16777215 := by unfold rightB at h; exact of_decide_eq_true h

set_option maxHeartbeats 2000000 in
theorem walk_StampOrder (a b c d e f : Int) (w : World) (_w0_0 : (Lit.int .i64 a).wf = true) (_w0_1 : (Lit.int .i64 b).wf = true) (_w1_0 : (Lit.int .i64 c).wf = true) (_w1_1 : (Lit.int .i64 d).wf = true) (_w2_0 : (Lit.int .i64 e).wf = true) (_w2_1 : (Lit.int .i64 f).wf = true) :
    Calls Try.prog 5 #[st a b, st c d, st e f] w fun e w' => e = .returned (.bool true) ∧ Below w.heap.size w w' := by
  clear _w0_0 _w0_1 _w1_0 _w1_1 _w2_0 _w2_1
  have q0 : (((w.alloc (.cells #[.int .i64 a, .int .i64 b] 23)).alloc (.cells #[.int .i64 c, .int .i64 d] 23)).alloc (.cells #[.int .i64 e, .int .i64 f] 23)).cell? ⟨w.heap.size, 0, none⟩ = some (i64 a) := by go_simp
  have q1 : (((w.alloc (.cells #[.int .i64 a, .int .i64 b] 23)).alloc (.cells #[.int .i64 c, .int .i64 d] 23)).alloc (.cells #[.int .i64 e, .int .i64 f] 23)).cell? ⟨w.heap.size, 1, none⟩ = some (i64 b) := by go_simp
  have q2 : (((w.alloc (.cells #[.int .i64 a, .int .i64 b] 23)).alloc (.cells #[.int .i64 c, .int .i64 d] 23)).alloc (.cells #[.int .i64 e, .int .i64 f] 23)).cell? ⟨w.heap.size + 1, 0, none⟩ = some (i64 c) := by go_simp
  have q3 : (((w.alloc (.cells #[.int .i64 a, .int .i64 b] 23)).alloc (.cells #[.int .i64 c, .int .i64 d] 23)).alloc (.cells #[.int .i64 e, .int .i64 f] 23)).cell? ⟨w.heap.size + 1, 1, none⟩ = some (i64 d) := by go_simp
  have q4 : (((w.alloc (.cells #[.int .i64 a, .int .i64 b] 23)).alloc (.cells #[.int .i64 c, .int .i64 d] 23)).alloc (.cells #[.int .i64 e, .int .i64 f] 23)).cell? ⟨w.heap.size + 1 + 1, 0, none⟩ = some (i64 e) := by go_simp
  have q5 : (((w.alloc (.cells #[.int .i64 a, .int .i64 b] 23)).alloc (.cells #[.int .i64 c, .int .i64 d] 23)).alloc (.cells #[.int .i64 e, .int .i64 f] 23)).cell? ⟨w.heap.size + 1 + 1, 1, none⟩ = some (i64 f) := by go_simp
  have b1 := cmpS_bd c d a b
  have e1 : (cmpS a b c d != IntKind.i64.wrap (-cmpS c d a b)) = false := by rw [IntWalk.i64_in _ (by omega), ← cmpS_neg a b c d]; simp
  have key : rightB a b = true → rightB c d = true → rightB e f = true → b < c → d < e → b < e := fun h1 h2 h3 h4 h5 => by
    have := rightB_iff h2
    omega
  have Key := Lib.hid key
  clear key
  rcases Bool.eq_false_or_eq_true (decide (cmpS a b c d ≤ 0)) with g1 | g1
  · rcases Bool.eq_false_or_eq_true (decide (cmpS c d e f ≤ 0)) with g2 | g2
    · have g3 : decide (0 < cmpS a b e f) = false := by
        have := cmpS_trans a b c d e f (of_decide_eq_true g1) (of_decide_eq_true g2)
        simp; omega
      go_enter Try.func5, Try.ntmps5
      go_wp2_with fail
      refine (head1_any _).mono ?_
      rintro e w1 ⟨rfl, hb1⟩
      replace q0 := cell_later hb1 q0
      replace q1 := cell_later hb1 q1
      replace q2 := cell_later hb1 q2
      replace q3 := cell_later hb1 q3
      replace q4 := cell_later hb1 q4
      replace q5 := cell_later hb1 q5
      go_wp2_with fail
      refine wp_region_seq ((0, true) :: (1, true) :: (3, true) :: (4, true) :: (2, false) :: (5, false) :: (6, true) :: (7, true) :: (8, true) :: (9, true) :: (10, true) :: (11, false) :: (12, true) :: (13, true) :: (14, true) :: (15, true) :: (16, false) :: (17, true) :: (18, true) :: (19, true) :: (20, true) :: (21, true) :: (22, false) :: (23, true) :: (24, true) :: (25, true) :: []) (by kernel_rfl) (by kernel_rfl) (by kernel_rfl) (by decide) (fun _ _ _ _ _ h => h) (fun hHeld => ?_)
      repeat (first
        | (refine seq_take (v := ?_) rfl ?_ ?_ ?_; rotate_left 1; rfl; (focus (intro wS hSw; have hk := below_rule hSw; go_simp; first | done | with_reducible rfl)); (try simp only [Act.put, List.setIfInBounds_toArray, List.set_cons_zero, List.set_cons_succ]))
        | (refine seq_skip rfl ?_ ?_; rfl; (try simp only [Act.put, List.setIfInBounds_toArray, List.set_cons_zero, List.set_cons_succ]))
        | (refine seq_run rfl (fun K hK => ?_); go_simp; (try (first | (go_at_call 17; refine (before_any _ _ _ _ _).mono ?_; rintro e w' ⟨rfl, hb'⟩) | (go_at_call 18; refine (apart_any _ _ _ _ _).mono ?_; rintro e w' ⟨rfl, hb'⟩) | (go_at_call 19; refine (compare_any _ _ _ _ _).mono ?_; rintro e w' ⟨rfl, hb'⟩) | (go_at_call 21; refine (right_any _ _ _).mono ?_; rintro e w' ⟨rfl, hb'⟩) | (go_at_call 16; refine (join_any _ _ _ _ _).mono ?_; rintro e w' ⟨rfl, hb'⟩))); (try go_wp2_with fail); refine hK.out _ _ ?_ ?_; (focus (first | exact below_step hHeld hb' | exact below_new hHeld _ | exact hHeld)); (try clear hb'); clear hHeld hK K; intro hHeld; (try simp only [Act.put, List.setIfInBounds_toArray, List.set_cons_zero, List.set_cons_succ])))
      first | refine seq_done ?_ | skip
      have hB := hHeld
      clear hHeld
      have hk := below_rule hB
      go_wp2_with (first | (go_at_call 17; refine (before_any _ _ _ _ _).mono ?_; rintro e w' ⟨rfl, hb'⟩; (first | replace hB := below_step hB hb' | replace hB := below_step (below_new hB _) hb'); clear hb'; (try clear hk); have hk := below_rule hB) | (go_at_call 18; refine (apart_any _ _ _ _ _).mono ?_; rintro e w' ⟨rfl, hb'⟩; (first | replace hB := below_step hB hb' | replace hB := below_step (below_new hB _) hb'); clear hb'; (try clear hk); have hk := below_rule hB) | (go_at_call 19; refine (compare_any _ _ _ _ _).mono ?_; rintro e w' ⟨rfl, hb'⟩; (first | replace hB := below_step hB hb' | replace hB := below_step (below_new hB _) hb'); clear hb'; (try clear hk); have hk := below_rule hB) | (go_at_call 20; refine (lawcompare_any _ _ _ _ _).mono ?_; rintro e w' ⟨rfl, hb'⟩; (first | replace hB := below_step hB hb' | replace hB := below_step (below_new hB _) hb'); clear hb'; (try clear hk); have hk := below_rule hB) | (go_at_call 21; refine (right_any _ _ _).mono ?_; rintro e w' ⟨rfl, hb'⟩; (first | replace hB := below_step hB hb' | replace hB := below_step (below_new hB _) hb'); clear hb'; (try clear hk); have hk := below_rule hB) | (go_at_call 16; refine (join_any _ _ _ _ _).mono ?_; rintro e w' ⟨rfl, hb'⟩; (first | replace hB := below_step hB hb' | replace hB := below_step (below_new hB _) hb'); clear hb'; (try clear hk); have hk := below_rule hB) | (go_at_call 15; refine (head1_any _).mono ?_; rintro e w' ⟨rfl, hb'⟩; (first | replace hB := below_step hB hb' | replace hB := below_step (below_new hB _) hb'); clear hb'; (try clear hk); have hk := below_rule hB))
      all_goals
        go_ret
        refine ⟨?_, ?_⟩
        · first | rfl | (have hx := Key.out ‹_› ‹_› ‹_› ‹_› ‹_›; rw [decide_eq_true hx]; rfl)
        · skip
          (try refine below_step ?_ hB); repeat (first | exact Below.refl _ _ | refine below_step ?_ (by assumption) | refine below_new ?_ _ | refine Below.drew ?_ | refine below_drawn ?_ _)
    · skip
      go_enter Try.func5, Try.ntmps5
      go_wp2_with fail
      refine (head1_any _).mono ?_
      rintro e w1 ⟨rfl, hb1⟩
      replace q0 := cell_later hb1 q0
      replace q1 := cell_later hb1 q1
      replace q2 := cell_later hb1 q2
      replace q3 := cell_later hb1 q3
      replace q4 := cell_later hb1 q4
      replace q5 := cell_later hb1 q5
      go_wp2_with fail
      refine wp_region_seq ((0, true) :: (1, true) :: (3, true) :: (4, true) :: (2, false) :: (5, false) :: (6, true) :: (7, true) :: (8, true) :: (9, true) :: (10, true) :: (11, false) :: (12, true) :: (13, true) :: (14, true) :: (15, true) :: (16, false) :: (17, true) :: (18, true) :: (19, true) :: (20, true) :: (21, true) :: (22, false) :: (23, true) :: (24, true) :: (25, true) :: []) (by kernel_rfl) (by kernel_rfl) (by kernel_rfl) (by decide) (fun _ _ _ _ _ h => h) (fun hHeld => ?_)
      repeat (first
        | (refine seq_take (v := ?_) rfl ?_ ?_ ?_; rotate_left 1; rfl; (focus (intro wS hSw; have hk := below_rule hSw; go_simp; first | done | with_reducible rfl)); (try simp only [Act.put, List.setIfInBounds_toArray, List.set_cons_zero, List.set_cons_succ]))
        | (refine seq_skip rfl ?_ ?_; rfl; (try simp only [Act.put, List.setIfInBounds_toArray, List.set_cons_zero, List.set_cons_succ]))
        | (refine seq_run rfl (fun K hK => ?_); go_simp; (try (first | (go_at_call 17; refine (before_any _ _ _ _ _).mono ?_; rintro e w' ⟨rfl, hb'⟩) | (go_at_call 18; refine (apart_any _ _ _ _ _).mono ?_; rintro e w' ⟨rfl, hb'⟩) | (go_at_call 19; refine (compare_any _ _ _ _ _).mono ?_; rintro e w' ⟨rfl, hb'⟩) | (go_at_call 21; refine (right_any _ _ _).mono ?_; rintro e w' ⟨rfl, hb'⟩) | (go_at_call 16; refine (join_any _ _ _ _ _).mono ?_; rintro e w' ⟨rfl, hb'⟩))); (try go_wp2_with fail); refine hK.out _ _ ?_ ?_; (focus (first | exact below_step hHeld hb' | exact below_new hHeld _ | exact hHeld)); (try clear hb'); clear hHeld hK K; intro hHeld; (try simp only [Act.put, List.setIfInBounds_toArray, List.set_cons_zero, List.set_cons_succ])))
      first | refine seq_done ?_ | skip
      have hB := hHeld
      clear hHeld
      have hk := below_rule hB
      go_wp2_with (first | (go_at_call 17; refine (before_any _ _ _ _ _).mono ?_; rintro e w' ⟨rfl, hb'⟩; (first | replace hB := below_step hB hb' | replace hB := below_step (below_new hB _) hb'); clear hb'; (try clear hk); have hk := below_rule hB) | (go_at_call 18; refine (apart_any _ _ _ _ _).mono ?_; rintro e w' ⟨rfl, hb'⟩; (first | replace hB := below_step hB hb' | replace hB := below_step (below_new hB _) hb'); clear hb'; (try clear hk); have hk := below_rule hB) | (go_at_call 19; refine (compare_any _ _ _ _ _).mono ?_; rintro e w' ⟨rfl, hb'⟩; (first | replace hB := below_step hB hb' | replace hB := below_step (below_new hB _) hb'); clear hb'; (try clear hk); have hk := below_rule hB) | (go_at_call 20; refine (lawcompare_any _ _ _ _ _).mono ?_; rintro e w' ⟨rfl, hb'⟩; (first | replace hB := below_step hB hb' | replace hB := below_step (below_new hB _) hb'); clear hb'; (try clear hk); have hk := below_rule hB) | (go_at_call 21; refine (right_any _ _ _).mono ?_; rintro e w' ⟨rfl, hb'⟩; (first | replace hB := below_step hB hb' | replace hB := below_step (below_new hB _) hb'); clear hb'; (try clear hk); have hk := below_rule hB) | (go_at_call 16; refine (join_any _ _ _ _ _).mono ?_; rintro e w' ⟨rfl, hb'⟩; (first | replace hB := below_step hB hb' | replace hB := below_step (below_new hB _) hb'); clear hb'; (try clear hk); have hk := below_rule hB) | (go_at_call 15; refine (head1_any _).mono ?_; rintro e w' ⟨rfl, hb'⟩; (first | replace hB := below_step hB hb' | replace hB := below_step (below_new hB _) hb'); clear hb'; (try clear hk); have hk := below_rule hB))
      all_goals
        go_ret
        refine ⟨?_, ?_⟩
        · first | rfl | (have hx := Key.out ‹_› ‹_› ‹_› ‹_› ‹_›; rw [decide_eq_true hx]; rfl)
        · skip
          (try refine below_step ?_ hB); repeat (first | exact Below.refl _ _ | refine below_step ?_ (by assumption) | refine below_new ?_ _ | refine Below.drew ?_ | refine below_drawn ?_ _)
  · skip
    go_enter Try.func5, Try.ntmps5
    go_wp2_with fail
    refine (head1_any _).mono ?_
    rintro e w1 ⟨rfl, hb1⟩
    replace q0 := cell_later hb1 q0
    replace q1 := cell_later hb1 q1
    replace q2 := cell_later hb1 q2
    replace q3 := cell_later hb1 q3
    replace q4 := cell_later hb1 q4
    replace q5 := cell_later hb1 q5
    go_wp2_with fail
    refine wp_region_seq ((0, true) :: (1, true) :: (3, true) :: (4, true) :: (2, false) :: (5, false) :: (6, true) :: (7, true) :: (8, true) :: (9, true) :: (10, true) :: (11, false) :: (12, true) :: (13, true) :: (14, true) :: (15, true) :: (16, false) :: (17, true) :: (18, true) :: (19, true) :: (20, true) :: (21, true) :: (22, false) :: (23, true) :: (24, true) :: (25, true) :: []) (by kernel_rfl) (by kernel_rfl) (by kernel_rfl) (by decide) (fun _ _ _ _ _ h => h) (fun hHeld => ?_)
    repeat (first
      | (refine seq_take (v := ?_) rfl ?_ ?_ ?_; rotate_left 1; rfl; (focus (intro wS hSw; have hk := below_rule hSw; go_simp; first | done | with_reducible rfl)); (try simp only [Act.put, List.setIfInBounds_toArray, List.set_cons_zero, List.set_cons_succ]))
      | (refine seq_skip rfl ?_ ?_; rfl; (try simp only [Act.put, List.setIfInBounds_toArray, List.set_cons_zero, List.set_cons_succ]))
      | (refine seq_run rfl (fun K hK => ?_); go_simp; (try (first | (go_at_call 17; refine (before_any _ _ _ _ _).mono ?_; rintro e w' ⟨rfl, hb'⟩) | (go_at_call 18; refine (apart_any _ _ _ _ _).mono ?_; rintro e w' ⟨rfl, hb'⟩) | (go_at_call 19; refine (compare_any _ _ _ _ _).mono ?_; rintro e w' ⟨rfl, hb'⟩) | (go_at_call 21; refine (right_any _ _ _).mono ?_; rintro e w' ⟨rfl, hb'⟩) | (go_at_call 16; refine (join_any _ _ _ _ _).mono ?_; rintro e w' ⟨rfl, hb'⟩))); (try go_wp2_with fail); refine hK.out _ _ ?_ ?_; (focus (first | exact below_step hHeld hb' | exact below_new hHeld _ | exact hHeld)); (try clear hb'); clear hHeld hK K; intro hHeld; (try simp only [Act.put, List.setIfInBounds_toArray, List.set_cons_zero, List.set_cons_succ])))
    first | refine seq_done ?_ | skip
    have hB := hHeld
    clear hHeld
    have hk := below_rule hB
    go_wp2_with (first | (go_at_call 17; refine (before_any _ _ _ _ _).mono ?_; rintro e w' ⟨rfl, hb'⟩; (first | replace hB := below_step hB hb' | replace hB := below_step (below_new hB _) hb'); clear hb'; (try clear hk); have hk := below_rule hB) | (go_at_call 18; refine (apart_any _ _ _ _ _).mono ?_; rintro e w' ⟨rfl, hb'⟩; (first | replace hB := below_step hB hb' | replace hB := below_step (below_new hB _) hb'); clear hb'; (try clear hk); have hk := below_rule hB) | (go_at_call 19; refine (compare_any _ _ _ _ _).mono ?_; rintro e w' ⟨rfl, hb'⟩; (first | replace hB := below_step hB hb' | replace hB := below_step (below_new hB _) hb'); clear hb'; (try clear hk); have hk := below_rule hB) | (go_at_call 20; refine (lawcompare_any _ _ _ _ _).mono ?_; rintro e w' ⟨rfl, hb'⟩; (first | replace hB := below_step hB hb' | replace hB := below_step (below_new hB _) hb'); clear hb'; (try clear hk); have hk := below_rule hB) | (go_at_call 21; refine (right_any _ _ _).mono ?_; rintro e w' ⟨rfl, hb'⟩; (first | replace hB := below_step hB hb' | replace hB := below_step (below_new hB _) hb'); clear hb'; (try clear hk); have hk := below_rule hB) | (go_at_call 16; refine (join_any _ _ _ _ _).mono ?_; rintro e w' ⟨rfl, hb'⟩; (first | replace hB := below_step hB hb' | replace hB := below_step (below_new hB _) hb'); clear hb'; (try clear hk); have hk := below_rule hB) | (go_at_call 15; refine (head1_any _).mono ?_; rintro e w' ⟨rfl, hb'⟩; (first | replace hB := below_step hB hb' | replace hB := below_step (below_new hB _) hb'); clear hb'; (try clear hk); have hk := below_rule hB))
    all_goals
      go_ret
      refine ⟨?_, ?_⟩
      · first | rfl | (have hx := Key.out ‹_› ‹_› ‹_› ‹_› ‹_›; rw [decide_eq_true hx]; rfl)
      · skip
        (try refine below_step ?_ hB); repeat (first | exact Below.refl _ _ | refine below_step ?_ (by assumption) | refine below_new ?_ _ | refine Below.drew ?_ | refine below_drawn ?_ _)

end Go.Proofs.Ytlhacbhdajjkhaa
