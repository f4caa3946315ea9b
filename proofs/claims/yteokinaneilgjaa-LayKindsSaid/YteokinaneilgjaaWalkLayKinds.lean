/-
  LayKinds answers true for every layout and cell, and leaves all memory that was there as it was. No condition.
-/
import Derived.Test.YteokinaneilgjaaWalkLayFits
namespace Go.Proofs.Yteokinaneilgjaa
open Go.RowKit
set_option linter.unusedVariables false

set_option maxHeartbeats 4000000 in
theorem walk_LayKinds (t s so d c : Int) (w : World) (w0_0 : (Lit.int .i64 t).wf = true) (w0_1 : (Lit.int .i64 s).wf = true) (w0_2 : (Lit.int .i64 so).wf = true) (w0_3 : (Lit.int .i64 d).wf = true) (w1 : (Lit.int .i64 c).wf = true) :
    Calls Try.prog 14 #[.agg #[.int .i64 t, .int .i64 s, .int .i64 so, .int .i64 d], .int .i64 c] w fun e w' => e = .returned (.bool true) ∧ Below w.heap.size w w' := by
  clear w0_0 w0_1 w0_2 w0_3 w1
  rcases Bool.eq_false_or_eq_true (rightC t s so d) with hr | hr
  · obtain ⟨n, hl⟩ : ∃ n, Lay t s n := ⟨_, lay_of_right hr⟩
    have hn1 := hl.n1; have hn2 := hl.n2; have ht1 := hl.t1; have ht2 := hl.t2
    obtain ⟨k, x, hk⟩ : ∃ k x, KindC t n c k x := by
      by_cases h1 : c < 0
      · exact ⟨0, 0, .inl ⟨.inl h1, rfl, rfl⟩⟩
      · by_cases h2 : 2 * n + 2 * t ≤ c
        · exact ⟨0, 0, .inl ⟨.inr h2, rfl, rfl⟩⟩
        · by_cases h3 : c < n
          · exact ⟨1, c, .inr (.inl ⟨by omega, h3, rfl, rfl⟩)⟩
          · by_cases h4 : c < 2 * n
            · exact ⟨2, c - n, .inr (.inr (.inl ⟨by omega, h4, rfl, rfl⟩))⟩
            · by_cases h5 : c < 2 * n + t
              · exact ⟨3, c - 2 * n, .inr (.inr (.inr (.inl ⟨by omega, h5, rfl, rfl⟩)))⟩
              · exact ⟨4, c - (2 * n + t), .inr (.inr (.inr (.inr ⟨by omega, by omega, rfl, rfl⟩)))⟩
    have Hk := Lib.hid hk
    have Hq : Hid (∀ W, Calls Try.prog 30 #[cf t s so d, i64 c] W fun r w' => r = .returned (.tuple #[i64 k, i64 x]) ∧ Below W.heap.size W w') := fun W => ckind_any t s so d n c k x W hl Hk.out
    clear Hk
    rcases hk with ⟨hc | hc, rfl, rfl⟩ | ⟨c0, c1, rfl, rfl⟩ | ⟨c0, c1, rfl, rfl⟩ | ⟨c0, c1, rfl, rfl⟩ | ⟨c0, c1, rfl, rfl⟩
    all_goals
      go_enter Try.func14, Try.ntmps14
      go_wp2_with fail
      refine (head4_any _).mono ?_
      rintro e w1 ⟨rfl, hb1⟩
      have hk1 := below_rule hb1
      go_wp2_with fail
      refine (cright_any _ _ _ _ _).mono ?_
      rintro e w2 ⟨rfl, hb2⟩
      have hB := below_step hb1 hb2
      clear hb1 hb2 hk1
      have hk := below_rule hB
      rw [hr]
      go_wp2_with (first | (go_at_call 30; refine (Hq.out _).mono ?_; rintro e w' ⟨rfl, hb'⟩; (first | replace hB := below_step hB hb' | replace hB := below_step (below_new hB _) hb'); clear hb'; (try clear hk); have hk := below_rule hB) | (go_at_call 35; refine (ccells_any _ _ _ _ n _ hl).mono ?_; rintro e w' ⟨rfl, hb'⟩; (first | replace hB := below_step hB hb' | replace hB := below_step (below_new hB _) hb'); clear hb'; (try clear hk); have hk := below_rule hB) | (go_at_call 36; refine (call_any _ _ _ _ n _ hl).mono ?_; rintro e w' ⟨rfl, hb'⟩; (first | replace hB := below_step hB hb' | replace hB := below_step (below_new hB _) hb'); clear hb'; (try clear hk); have hk := below_rule hB) | (go_at_call 32; refine (cvalue_any _ _ _ _ n _ _ hl (by omega) (by omega)).mono ?_; rintro e w' ⟨rfl, hb'⟩; (first | replace hB := below_step hB hb' | replace hB := below_step (below_new hB _) hb'); clear hb'; (try clear hk); have hk := below_rule hB) | (go_at_call 33; refine (chazard_any _ _ _ _ n _ _ hl (by omega) (by omega)).mono ?_; rintro e w' ⟨rfl, hb'⟩; (first | replace hB := below_step hB hb' | replace hB := below_step (below_new hB _) hb'); clear hb'; (try clear hk); have hk := below_rule hB) | (go_at_call 34; refine (cnumber_any _ _ _ _ n _ _ hl (by omega) (by omega)).mono ?_; rintro e w' ⟨rfl, hb'⟩; (first | replace hB := below_step hB hb' | replace hB := below_step (below_new hB _) hb'); clear hb'; (try clear hk); have hk := below_rule hB) | (go_at_call 31; refine (cword_any _ _ _ _ _ _).mono ?_; rintro e w' ⟨rfl, hb'⟩; (first | replace hB := below_step hB hb' | replace hB := below_step (below_new hB _) hb'); clear hb'; (try clear hk); have hk := below_rule hB))
      go_ret
      exact ⟨ret_bool (by first | rfl | (simp only [Bool.not_eq_true', decide_eq_true_eq, decide_eq_false_iff_not, beq_iff_eq, Bool.and_eq_true]; omega)), below_step (below_new (Below.refl _ _) _) hB⟩
  ·
    go_enter Try.func14, Try.ntmps14
    go_wp2_with fail
    refine (head4_any _).mono ?_
    rintro e w1 ⟨rfl, hb1⟩
    have hk1 := below_rule hb1
    go_wp2_with fail
    refine (cright_any _ _ _ _ _).mono ?_
    rintro e w2 ⟨rfl, hb2⟩
    go_wp2_with fail
    go_ret
    exact ⟨rfl, below_step (below_new (Below.refl _ _) _) (below_step hb1 hb2)⟩

end Go.Proofs.Yteokinaneilgjaa
