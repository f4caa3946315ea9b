/-
  WordApart answers true for every two words, and leaves all memory that was there as it was. No condition.
-/
import Derived.Test.YtlhacbhdajjkhaaWordCalls
namespace Go.Proofs.Ytlhacbhdajjkhaa
open Go.RowKit

theorem rightW_iff {s e g lo hi : Int} (h : rightW s e g lo hi = true) : 0 ≤ s ∧ s ≤ 2 ∧ 0 ≤ e ∧ e ≤ 1 ∧ 0 ≤ g ∧ g ≤ 8191 ∧ 0 ≤ lo ∧ lo ≤ 16777215 ∧ 0 ≤ hi ∧ hi ≤ 16777215 := by unfold rightW at h; exact of_decide_eq_true h

def packN (s e g lo hi : Int) : Int := s + 4 * e + 8 * g + 65536 * lo + 1099511627776 * hi

theorem pack_named (s e g lo hi : Int) (w : World) (h : rightW s e g lo hi = true) :
    Calls Try.prog 24 #[wd s e g lo hi] w fun r w' => r = .returned (u64 (packN s e g lo hi)) ∧ Below w.heap.size w w' := pack_right s e g lo hi w (rightW_iff h)

theorem packN_ne {s e g lo hi s' e' g' lo' hi' : Int} (h : rightW s e g lo hi = true) (h' : rightW s' e' g' lo' hi' = true) (hn : ¬ (s = s' ∧ e = e' ∧ g = g' ∧ lo = lo' ∧ hi = hi')) :
    (packN s e g lo hi == packN s' e' g' lo' hi') = false := by
  have h1 := rightW_iff h
  have h2 := rightW_iff h'
  rw [beq_eq_false_iff_ne]
  unfold packN
  omega

set_option maxHeartbeats 2000000 in
theorem walk_WordApart (s e g lo hi s' e' g' lo' hi' : Int) (w : World) (_w0_0 : (Lit.int .i64 s).wf = true) (_w0_1 : (Lit.int .i64 e).wf = true) (_w0_2 : (Lit.int .i64 g).wf = true) (_w0_3 : (Lit.int .i64 lo).wf = true) (_w0_4 : (Lit.int .i64 hi).wf = true) (_w1_0 : (Lit.int .i64 s').wf = true) (_w1_1 : (Lit.int .i64 e').wf = true) (_w1_2 : (Lit.int .i64 g').wf = true) (_w1_3 : (Lit.int .i64 lo').wf = true) (_w1_4 : (Lit.int .i64 hi').wf = true) :
    Calls Try.prog 12 #[wd s e g lo hi, wd s' e' g' lo' hi'] w fun r w' => r = .returned (.bool true) ∧ Below w.heap.size w w' := by
  clear _w0_0 _w0_1 _w0_2 _w0_3 _w0_4 _w1_0 _w1_1 _w1_2 _w1_3 _w1_4
  have hB := Below.refl ((w.alloc (.cells #[.int .i64 s, .int .i64 e, .int .i64 g, .int .i64 lo, .int .i64 hi] 38)).alloc (.cells #[.int .i64 s', .int .i64 e', .int .i64 g', .int .i64 lo', .int .i64 hi'] 38)).heap.size ((w.alloc (.cells #[.int .i64 s, .int .i64 e, .int .i64 g, .int .i64 lo, .int .i64 hi] 38)).alloc (.cells #[.int .i64 s', .int .i64 e', .int .i64 g', .int .i64 lo', .int .i64 hi'] 38))
  have hW : Below w.heap.size w ((w.alloc (.cells #[.int .i64 s, .int .i64 e, .int .i64 g, .int .i64 lo, .int .i64 hi] 38)).alloc (.cells #[.int .i64 s', .int .i64 e', .int .i64 g', .int .i64 lo', .int .i64 hi'] 38)) := below_new (below_new (Below.refl _ _) _) _
  rcases Bool.eq_false_or_eq_true (rightW s e g lo hi) with hr | hr
  · rcases Bool.eq_false_or_eq_true (rightW s' e' g' lo' hi') with hr' | hr'
    · by_cases hn : s = s' ∧ e = e' ∧ g = g' ∧ lo = lo' ∧ hi = hi'
      · obtain ⟨rfl, rfl, rfl, rfl, rfl⟩ := hn
        go_enter Try.func12, Try.ntmps12
        go_wp2_with (first | (go_at_call 23; refine (head2_any _).mono ?_; rintro e w' ⟨rfl, hb'⟩; (first | replace hB := below_step hB hb' | replace hB := below_step (below_new hB _) hb'); clear hb'; (try clear hk); have hk := below_rule hB) | (go_at_call 26; refine (wright_any _ _ _ _ _ _).mono ?_; rintro e w' ⟨rfl, hb'⟩; (first | replace hB := below_step hB hb' | replace hB := below_step (below_new hB _) hb'); clear hb'; (try clear hk); have hk := below_rule hB))
        refine wp_region_seq ((0, true) :: (1, true) :: (2, true) :: (3, true) :: (5, true) :: (4, false) :: (6, false) :: (7, true) :: (8, true) :: (9, true) :: []) (by kernel_rfl) (by kernel_rfl) (by kernel_rfl) (by decide) (fun _ _ _ _ _ h => h) (fun hHeld => ?_)
        repeat (first
          | (refine seq_take (v := ?_) rfl ?_ ?_ ?_; rotate_left 1; rfl; (focus (intro wS hSw; have hk := below_rule hSw; go_simp; first | done | with_reducible rfl)); (try simp only [Act.put, List.setIfInBounds_toArray, List.set_cons_zero, List.set_cons_succ]))
          | (refine seq_skip rfl ?_ ?_; rfl; (try simp only [Act.put, List.setIfInBounds_toArray, List.set_cons_zero, List.set_cons_succ]))
          | (refine seq_run rfl (fun K hK => ?_); go_simp; (try (first | (go_at_call 24; refine (pack_named _ _ _ _ _ _ (by assumption)).mono ?_; rintro e w' ⟨rfl, hb'⟩))); (try go_wp2_with fail); refine hK.out _ _ ?_ ?_; (focus (first | exact below_step hHeld hb' | exact below_new hHeld _ | exact hHeld)); (try clear hb'); clear hHeld hK K; intro hHeld; (try simp only [Act.put, List.setIfInBounds_toArray, List.set_cons_zero, List.set_cons_succ])))
        first | refine seq_done ?_ | skip
        go_wp2
        go_ret
        exact ⟨rfl, below_step (below_step hW hB) hHeld⟩
      · have hp := packN_ne hr hr' hn
        rcases (by omega : ¬ s = s' ∨ (s = s' ∧ ¬ e = e') ∨ (s = s' ∧ e = e' ∧ ¬ g = g') ∨ (s = s' ∧ e = e' ∧ g = g' ∧ ¬ lo = lo') ∨ (s = s' ∧ e = e' ∧ g = g' ∧ lo = lo' ∧ ¬ hi = hi')) with c | ⟨rfl, c⟩ | ⟨rfl, rfl, c⟩ | ⟨rfl, rfl, rfl, c⟩ | ⟨rfl, rfl, rfl, rfl, c⟩
        all_goals
          clear hn
          go_enter Try.func12, Try.ntmps12
          go_wp2_with (first | (go_at_call 23; refine (head2_any _).mono ?_; rintro e w' ⟨rfl, hb'⟩; (first | replace hB := below_step hB hb' | replace hB := below_step (below_new hB _) hb'); clear hb'; (try clear hk); have hk := below_rule hB) | (go_at_call 26; refine (wright_any _ _ _ _ _ _).mono ?_; rintro e w' ⟨rfl, hb'⟩; (first | replace hB := below_step hB hb' | replace hB := below_step (below_new hB _) hb'); clear hb'; (try clear hk); have hk := below_rule hB))
          refine wp_region_seq ((0, true) :: (1, true) :: (2, true) :: (3, true) :: (5, true) :: (4, false) :: (6, false) :: (7, true) :: (8, true) :: (9, true) :: []) (by kernel_rfl) (by kernel_rfl) (by kernel_rfl) (by decide) (fun _ _ _ _ _ h => h) (fun hHeld => ?_)
          repeat (first
            | (refine seq_take (v := ?_) rfl ?_ ?_ ?_; rotate_left 1; rfl; (focus (intro wS hSw; have hk := below_rule hSw; go_simp; first | done | with_reducible rfl)); (try simp only [Act.put, List.setIfInBounds_toArray, List.set_cons_zero, List.set_cons_succ]))
            | (refine seq_skip rfl ?_ ?_; rfl; (try simp only [Act.put, List.setIfInBounds_toArray, List.set_cons_zero, List.set_cons_succ]))
            | (refine seq_run rfl (fun K hK => ?_); go_simp; (try (first | (go_at_call 24; refine (pack_named _ _ _ _ _ _ (by assumption)).mono ?_; rintro e w' ⟨rfl, hb'⟩))); (try go_wp2_with fail); refine hK.out _ _ ?_ ?_; (focus (first | exact below_step hHeld hb' | exact below_new hHeld _ | exact hHeld)); (try clear hb'); clear hHeld hK K; intro hHeld; (try simp only [Act.put, List.setIfInBounds_toArray, List.set_cons_zero, List.set_cons_succ])))
          first | refine seq_done ?_ | skip
          go_wp2
          go_ret
          exact ⟨rfl, below_step (below_step hW hB) hHeld⟩
    · skip
      go_enter Try.func12, Try.ntmps12
      go_wp2_with (first | (go_at_call 23; refine (head2_any _).mono ?_; rintro e w' ⟨rfl, hb'⟩; (first | replace hB := below_step hB hb' | replace hB := below_step (below_new hB _) hb'); clear hb'; (try clear hk); have hk := below_rule hB) | (go_at_call 26; refine (wright_any _ _ _ _ _ _).mono ?_; rintro e w' ⟨rfl, hb'⟩; (first | replace hB := below_step hB hb' | replace hB := below_step (below_new hB _) hb'); clear hb'; (try clear hk); have hk := below_rule hB))
      go_ret
      exact ⟨rfl, below_step hW hB⟩
  · skip
    go_enter Try.func12, Try.ntmps12
    go_wp2_with (first | (go_at_call 23; refine (head2_any _).mono ?_; rintro e w' ⟨rfl, hb'⟩; (first | replace hB := below_step hB hb' | replace hB := below_step (below_new hB _) hb'); clear hb'; (try clear hk); have hk := below_rule hB) | (go_at_call 26; refine (wright_any _ _ _ _ _ _).mono ?_; rintro e w' ⟨rfl, hb'⟩; (first | replace hB := below_step hB hb' | replace hB := below_step (below_new hB _) hb'); clear hb'; (try clear hk); have hk := below_rule hB))
    go_ret
    exact ⟨rfl, below_step hW hB⟩

end Go.Proofs.Ytlhacbhdajjkhaa
