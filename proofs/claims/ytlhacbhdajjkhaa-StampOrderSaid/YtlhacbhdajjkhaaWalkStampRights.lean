/-
  StampRights answers true for every two stamps, and leaves all memory that was there as it was. No condition.
-/
import Derived.Test.YtlhacbhdajjkhaaStampCalls2
import Derived.Test.YtlhacbhdajjkhaaRegion
namespace Go.Proofs.Ytlhacbhdajjkhaa
open Go.RowKit

theorem rightB_true {a b : Int} (h : 0 ≤ a ∧ a ≤ b ∧ b < 16777215) : rightB a b = true := by simp [rightB, h]
theorem rightB_false {a b : Int} (h : ¬ (0 ≤ a ∧ a ≤ b ∧ b < 16777215)) : rightB a b = false := by unfold rightB; exact decide_eq_false h

set_option maxHeartbeats 1000000 in
theorem walk_StampRights (a b c d : Int) (w : World) (_w0_0 : (Lit.int .i64 a).wf = true) (_w0_1 : (Lit.int .i64 b).wf = true) (_w1_0 : (Lit.int .i64 c).wf = true) (_w1_1 : (Lit.int .i64 d).wf = true) :
    Calls Try.prog 4 #[st a b, st c d] w fun e w' => e = .returned (.bool true) ∧ Below w.heap.size w w' := by
  clear _w0_0 _w0_1 _w1_0 _w1_1
  have hB := Below.refl ((w.alloc (.cells #[.int .i64 a, .int .i64 b] 23)).alloc (.cells #[.int .i64 c, .int .i64 d] 23)).heap.size ((w.alloc (.cells #[.int .i64 a, .int .i64 b] 23)).alloc (.cells #[.int .i64 c, .int .i64 d] 23))
  by_cases h : 0 ≤ a ∧ a ≤ b ∧ b < 16777215
  · obtain ⟨h1, h2, h3⟩ := h
    have r1 := rightB_true ⟨h1, h2, h3⟩
    by_cases h' : 0 ≤ c ∧ c ≤ d ∧ d < 16777215
    · obtain ⟨h4, h5, h6⟩ := h'
      have r2 := rightB_true ⟨h4, h5, h6⟩
      have r3 : rightB (minZ a c) (maxZ b d) = true := rightB_true (by unfold minZ maxZ; omega)
      have r4 : cmpS a b a b = 0 := cmpS_same a b
      have r5 : apartB a b a b = false := by simp [apartB]; omega
      have r8 : decide (b < a) = false := by simp; omega
      by_cases h7 : b < c
      · have r6 : cmpS a b c d = -1 := cmpS_lt (by omega)
        have r7 : cmpS c d a b = 1 := cmpS_gt (by omega)
        go_enter Try.func4, Try.ntmps4
        go_wp2_with (first | (go_at_call 17; refine (before_any _ _ _ _ _).mono ?_; rintro e w' ⟨rfl, hb'⟩; (first | replace hB := below_step hB hb' | replace hB := below_step (below_new hB _) hb'); clear hb'; (try clear hk); have hk := below_rule hB) | (go_at_call 18; refine (apart_any _ _ _ _ _).mono ?_; rintro e w' ⟨rfl, hb'⟩; (first | replace hB := below_step hB hb' | replace hB := below_step (below_new hB _) hb'); clear hb'; (try clear hk); have hk := below_rule hB) | (go_at_call 19; refine (compare_any _ _ _ _ _).mono ?_; rintro e w' ⟨rfl, hb'⟩; (first | replace hB := below_step hB hb' | replace hB := below_step (below_new hB _) hb'); clear hb'; (try clear hk); have hk := below_rule hB) | (go_at_call 20; refine (lawcompare_any _ _ _ _ _).mono ?_; rintro e w' ⟨rfl, hb'⟩; (first | replace hB := below_step hB hb' | replace hB := below_step (below_new hB _) hb'); clear hb'; (try clear hk); have hk := below_rule hB) | (go_at_call 21; refine (right_any _ _ _).mono ?_; rintro e w' ⟨rfl, hb'⟩; (first | replace hB := below_step hB hb' | replace hB := below_step (below_new hB _) hb'); clear hb'; (try clear hk); have hk := below_rule hB) | (go_at_call 16; refine (join_any _ _ _ _ _).mono ?_; rintro e w' ⟨rfl, hb'⟩; (first | replace hB := below_step hB hb' | replace hB := below_step (below_new hB _) hb'); clear hb'; (try clear hk); have hk := below_rule hB) | (go_at_call 15; refine (head1_any _).mono ?_; rintro e w' ⟨rfl, hb'⟩; (first | replace hB := below_step hB hb' | replace hB := below_step (below_new hB _) hb'); clear hb'; (try clear hk); have hk := below_rule hB))
        go_ret
        refine ⟨rfl, ?_⟩
        (try refine below_step ?_ hB); repeat (first | exact Below.refl _ _ | refine below_step ?_ (by assumption) | refine below_new ?_ _ | refine Below.drew ?_ | refine below_drawn ?_ _)
      · skip
        go_enter Try.func4, Try.ntmps4
        go_wp2_with (first | (go_at_call 17; refine (before_any _ _ _ _ _).mono ?_; rintro e w' ⟨rfl, hb'⟩; (first | replace hB := below_step hB hb' | replace hB := below_step (below_new hB _) hb'); clear hb'; (try clear hk); have hk := below_rule hB) | (go_at_call 18; refine (apart_any _ _ _ _ _).mono ?_; rintro e w' ⟨rfl, hb'⟩; (first | replace hB := below_step hB hb' | replace hB := below_step (below_new hB _) hb'); clear hb'; (try clear hk); have hk := below_rule hB) | (go_at_call 19; refine (compare_any _ _ _ _ _).mono ?_; rintro e w' ⟨rfl, hb'⟩; (first | replace hB := below_step hB hb' | replace hB := below_step (below_new hB _) hb'); clear hb'; (try clear hk); have hk := below_rule hB) | (go_at_call 20; refine (lawcompare_any _ _ _ _ _).mono ?_; rintro e w' ⟨rfl, hb'⟩; (first | replace hB := below_step hB hb' | replace hB := below_step (below_new hB _) hb'); clear hb'; (try clear hk); have hk := below_rule hB) | (go_at_call 21; refine (right_any _ _ _).mono ?_; rintro e w' ⟨rfl, hb'⟩; (first | replace hB := below_step hB hb' | replace hB := below_step (below_new hB _) hb'); clear hb'; (try clear hk); have hk := below_rule hB) | (go_at_call 16; refine (join_any _ _ _ _ _).mono ?_; rintro e w' ⟨rfl, hb'⟩; (first | replace hB := below_step hB hb' | replace hB := below_step (below_new hB _) hb'); clear hb'; (try clear hk); have hk := below_rule hB) | (go_at_call 15; refine (head1_any _).mono ?_; rintro e w' ⟨rfl, hb'⟩; (first | replace hB := below_step hB hb' | replace hB := below_step (below_new hB _) hb'); clear hb'; (try clear hk); have hk := below_rule hB))
        go_ret
        refine ⟨rfl, ?_⟩
        (try refine below_step ?_ hB); repeat (first | exact Below.refl _ _ | refine below_step ?_ (by assumption) | refine below_new ?_ _ | refine Below.drew ?_ | refine below_drawn ?_ _)
    · have r2 := rightB_false h'
      clear h'
      go_enter Try.func4, Try.ntmps4
      go_wp2_with (first | (go_at_call 17; refine (before_any _ _ _ _ _).mono ?_; rintro e w' ⟨rfl, hb'⟩; (first | replace hB := below_step hB hb' | replace hB := below_step (below_new hB _) hb'); clear hb'; (try clear hk); have hk := below_rule hB) | (go_at_call 18; refine (apart_any _ _ _ _ _).mono ?_; rintro e w' ⟨rfl, hb'⟩; (first | replace hB := below_step hB hb' | replace hB := below_step (below_new hB _) hb'); clear hb'; (try clear hk); have hk := below_rule hB) | (go_at_call 19; refine (compare_any _ _ _ _ _).mono ?_; rintro e w' ⟨rfl, hb'⟩; (first | replace hB := below_step hB hb' | replace hB := below_step (below_new hB _) hb'); clear hb'; (try clear hk); have hk := below_rule hB) | (go_at_call 20; refine (lawcompare_any _ _ _ _ _).mono ?_; rintro e w' ⟨rfl, hb'⟩; (first | replace hB := below_step hB hb' | replace hB := below_step (below_new hB _) hb'); clear hb'; (try clear hk); have hk := below_rule hB) | (go_at_call 21; refine (right_any _ _ _).mono ?_; rintro e w' ⟨rfl, hb'⟩; (first | replace hB := below_step hB hb' | replace hB := below_step (below_new hB _) hb'); clear hb'; (try clear hk); have hk := below_rule hB) | (go_at_call 16; refine (join_any _ _ _ _ _).mono ?_; rintro e w' ⟨rfl, hb'⟩; (first | replace hB := below_step hB hb' | replace hB := below_step (below_new hB _) hb'); clear hb'; (try clear hk); have hk := below_rule hB) | (go_at_call 15; refine (head1_any _).mono ?_; rintro e w' ⟨rfl, hb'⟩; (first | replace hB := below_step hB hb' | replace hB := below_step (below_new hB _) hb'); clear hb'; (try clear hk); have hk := below_rule hB))
      go_ret
      refine ⟨rfl, ?_⟩
      (try refine below_step ?_ hB); repeat (first | exact Below.refl _ _ | refine below_step ?_ (by assumption) | refine below_new ?_ _ | refine Below.drew ?_ | refine below_drawn ?_ _)
  · have r1 := rightB_false h
    by_cases h1 : 0 ≤ a
    · by_cases h2 : a ≤ b
      · have h3 : ¬ b < 16777215 := by omega
        clear h
        go_enter Try.func4, Try.ntmps4
        go_wp2_with (first | (go_at_call 17; refine (before_any _ _ _ _ _).mono ?_; rintro e w' ⟨rfl, hb'⟩; (first | replace hB := below_step hB hb' | replace hB := below_step (below_new hB _) hb'); clear hb'; (try clear hk); have hk := below_rule hB) | (go_at_call 18; refine (apart_any _ _ _ _ _).mono ?_; rintro e w' ⟨rfl, hb'⟩; (first | replace hB := below_step hB hb' | replace hB := below_step (below_new hB _) hb'); clear hb'; (try clear hk); have hk := below_rule hB) | (go_at_call 19; refine (compare_any _ _ _ _ _).mono ?_; rintro e w' ⟨rfl, hb'⟩; (first | replace hB := below_step hB hb' | replace hB := below_step (below_new hB _) hb'); clear hb'; (try clear hk); have hk := below_rule hB) | (go_at_call 20; refine (lawcompare_any _ _ _ _ _).mono ?_; rintro e w' ⟨rfl, hb'⟩; (first | replace hB := below_step hB hb' | replace hB := below_step (below_new hB _) hb'); clear hb'; (try clear hk); have hk := below_rule hB) | (go_at_call 21; refine (right_any _ _ _).mono ?_; rintro e w' ⟨rfl, hb'⟩; (first | replace hB := below_step hB hb' | replace hB := below_step (below_new hB _) hb'); clear hb'; (try clear hk); have hk := below_rule hB) | (go_at_call 16; refine (join_any _ _ _ _ _).mono ?_; rintro e w' ⟨rfl, hb'⟩; (first | replace hB := below_step hB hb' | replace hB := below_step (below_new hB _) hb'); clear hb'; (try clear hk); have hk := below_rule hB) | (go_at_call 15; refine (head1_any _).mono ?_; rintro e w' ⟨rfl, hb'⟩; (first | replace hB := below_step hB hb' | replace hB := below_step (below_new hB _) hb'); clear hb'; (try clear hk); have hk := below_rule hB))
        go_ret
        refine ⟨rfl, ?_⟩
        (try refine below_step ?_ hB); repeat (first | exact Below.refl _ _ | refine below_step ?_ (by assumption) | refine below_new ?_ _ | refine Below.drew ?_ | refine below_drawn ?_ _)
      · clear h
        go_enter Try.func4, Try.ntmps4
        go_wp2_with (first | (go_at_call 17; refine (before_any _ _ _ _ _).mono ?_; rintro e w' ⟨rfl, hb'⟩; (first | replace hB := below_step hB hb' | replace hB := below_step (below_new hB _) hb'); clear hb'; (try clear hk); have hk := below_rule hB) | (go_at_call 18; refine (apart_any _ _ _ _ _).mono ?_; rintro e w' ⟨rfl, hb'⟩; (first | replace hB := below_step hB hb' | replace hB := below_step (below_new hB _) hb'); clear hb'; (try clear hk); have hk := below_rule hB) | (go_at_call 19; refine (compare_any _ _ _ _ _).mono ?_; rintro e w' ⟨rfl, hb'⟩; (first | replace hB := below_step hB hb' | replace hB := below_step (below_new hB _) hb'); clear hb'; (try clear hk); have hk := below_rule hB) | (go_at_call 20; refine (lawcompare_any _ _ _ _ _).mono ?_; rintro e w' ⟨rfl, hb'⟩; (first | replace hB := below_step hB hb' | replace hB := below_step (below_new hB _) hb'); clear hb'; (try clear hk); have hk := below_rule hB) | (go_at_call 21; refine (right_any _ _ _).mono ?_; rintro e w' ⟨rfl, hb'⟩; (first | replace hB := below_step hB hb' | replace hB := below_step (below_new hB _) hb'); clear hb'; (try clear hk); have hk := below_rule hB) | (go_at_call 16; refine (join_any _ _ _ _ _).mono ?_; rintro e w' ⟨rfl, hb'⟩; (first | replace hB := below_step hB hb' | replace hB := below_step (below_new hB _) hb'); clear hb'; (try clear hk); have hk := below_rule hB) | (go_at_call 15; refine (head1_any _).mono ?_; rintro e w' ⟨rfl, hb'⟩; (first | replace hB := below_step hB hb' | replace hB := below_step (below_new hB _) hb'); clear hb'; (try clear hk); have hk := below_rule hB))
        go_ret
        refine ⟨rfl, ?_⟩
        (try refine below_step ?_ hB); repeat (first | exact Below.refl _ _ | refine below_step ?_ (by assumption) | refine below_new ?_ _ | refine Below.drew ?_ | refine below_drawn ?_ _)
    · clear h
      go_enter Try.func4, Try.ntmps4
      go_wp2_with (first | (go_at_call 17; refine (before_any _ _ _ _ _).mono ?_; rintro e w' ⟨rfl, hb'⟩; (first | replace hB := below_step hB hb' | replace hB := below_step (below_new hB _) hb'); clear hb'; (try clear hk); have hk := below_rule hB) | (go_at_call 18; refine (apart_any _ _ _ _ _).mono ?_; rintro e w' ⟨rfl, hb'⟩; (first | replace hB := below_step hB hb' | replace hB := below_step (below_new hB _) hb'); clear hb'; (try clear hk); have hk := below_rule hB) | (go_at_call 19; refine (compare_any _ _ _ _ _).mono ?_; rintro e w' ⟨rfl, hb'⟩; (first | replace hB := below_step hB hb' | replace hB := below_step (below_new hB _) hb'); clear hb'; (try clear hk); have hk := below_rule hB) | (go_at_call 20; refine (lawcompare_any _ _ _ _ _).mono ?_; rintro e w' ⟨rfl, hb'⟩; (first | replace hB := below_step hB hb' | replace hB := below_step (below_new hB _) hb'); clear hb'; (try clear hk); have hk := below_rule hB) | (go_at_call 21; refine (right_any _ _ _).mono ?_; rintro e w' ⟨rfl, hb'⟩; (first | replace hB := below_step hB hb' | replace hB := below_step (below_new hB _) hb'); clear hb'; (try clear hk); have hk := below_rule hB) | (go_at_call 16; refine (join_any _ _ _ _ _).mono ?_; rintro e w' ⟨rfl, hb'⟩; (first | replace hB := below_step hB hb' | replace hB := below_step (below_new hB _) hb'); clear hb'; (try clear hk); have hk := below_rule hB) | (go_at_call 15; refine (head1_any _).mono ?_; rintro e w' ⟨rfl, hb'⟩; (first | replace hB := below_step hB hb' | replace hB := below_step (below_new hB _) hb'); clear hb'; (try clear hk); have hk := below_rule hB))
      go_ret
      refine ⟨rfl, ?_⟩
      (try refine below_step ?_ hB); repeat (first | exact Below.refl _ _ | refine below_step ?_ (by assumption) | refine below_new ?_ _ | refine Below.drew ?_ | refine below_drawn ?_ _)

end Go.Proofs.Ytlhacbhdajjkhaa
