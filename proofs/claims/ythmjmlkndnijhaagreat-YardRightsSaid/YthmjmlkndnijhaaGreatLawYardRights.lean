/-
  The statement of YardRights: for every input the call answers true, and leaves its arguments as they were. No condition.
-/
import Derived.Test.YthmjmlkndnijhaaGreatRows
import Derived.Test.YthmjmlkndnijhaaGreatAKit
import Derived.Test.YthmjmlkndnijhaaGreatWalkYardRights
namespace Go.Proofs.YthmjmlkndnijhaaGreat.lawYardRights
open Go.ChangeShapes Go.WideShapes Go.ChangeAt Go.RowKit
open Go.ChangeMaps (open_string shut_string)
set_option linter.unusedVariables false

theorem own : ownKnob Tryz.prog.godebug = none := by kernel_rfl
theorem laidOut : laidOutB Tryz.prog = true := by kernel_rfl

set_option maxRecDepth 100000 in
theorem lifted (os : Os) (started : os.Started) (H : Type) (enc : TypeId × Value → H) :
    ReturnsInHanded {} Tryz.checked os 5 .any (Rows.yardRightsSpec.pre6 enc Tryz.prog Tryz.f5 Rows.yardRightsRow.domain false) (Rows.yardRightsSpec.post enc Tryz.prog Tryz.f5 false true false false) := by
  refine returnsInHanded_of_change (C := Tryz.checked) own started (by kernel_rfl) Tryz.func5
    (ChangeSpec.witness6 (enc := enc) (C := Tryz.checked) false ⟨#[], #[.agg #[.int .i64 0, .int .i64 0, .int .i64 0, .int .i64 0], .int .i64 0, .agg #[.int .i64 0, .int .i64 0, .bool false, .bool false, .int .u64 0, .int .i64 0, .int .i64 0]], []⟩ 8 (by kernel_rfl) (by kernel_rfl) (by kernel_rfl) (by kernel_rfl)) ?_
  intro W base args ds gs before hval0 hW hcnd _
  have hval : ∀ (j : Nat) t v, Tryz.f5.params[j]? = some t → args[j]? = some v → Value.okWide Tryz.prog W .any base t v := hval0
  have hW' := hW
  obtain ⟨p, q, hA0, hV, rfl, hfz, hnd⟩ := hW
  have hA : DataW.TrodAll enc Tryz.prog W 0 (fun _ => true) true Tryz.f5.params.toList args.toList ds p := hA0
  rw [Tryz.params5] at hA hval
  obtain ⟨v0, vs0, d0, ds0, p0, q0, hargs, rfl, rfl, h0, r0⟩ := trodAll_cons hA
  obtain ⟨v1, vs1, d1, ds1, p1, q1, rfl, rfl, rfl, h1, r1⟩ := trodAll_cons r0
  obtain ⟨v2, vs2, d2, ds2, p2, q2, rfl, rfl, rfl, h2, r2⟩ := trodAll_cons r1
  obtain ⟨rfl, rfl, rfl⟩ := trodAll_nil r2
  obtain rfl : args = #[v0, v1, v2] := by cases args; simp_all
  obtain ⟨rfl, rfl⟩ := trodVars_none hV
  have k0 := h0
  have lt0 : ∀ x ∈ p0, x.block < W.heap.size := by obtain ⟨m, hm⟩ := k0; exact DataW.trod_lt m _ _ _ hm
  have k1 := h1
  have lt1 : ∀ x ∈ p1, x.block < W.heap.size := by obtain ⟨m, hm⟩ := k1; exact DataW.trod_lt m _ _ _ hm
  have k2 := h2
  have lt2 : ∀ x ∈ p2, x.block < W.heap.size := by obtain ⟨m, hm⟩ := k2; exact DataW.trod_lt m _ _ _ hm
  obtain ⟨l0, rfl, f0_0⟩ := open_flat (n := 6) (ks := [.inl .i64, .inl .i64, .inl .i64, .inl .i64]) Tryz.underlying26 (by kernel_rfl) (hval 0 26 v0 rfl rfl) h0
  obtain ⟨c0_0, l0_0, rfl, g0_0, f0_1⟩ := fit_cons f0_0
  obtain ⟨a0_0, rfl, w0_0⟩ := g0_0
  obtain ⟨c0_1, l0_1, rfl, g0_1, f0_2⟩ := fit_cons f0_1
  obtain ⟨a0_1, rfl, w0_1⟩ := g0_1
  obtain ⟨c0_2, l0_2, rfl, g0_2, f0_3⟩ := fit_cons f0_2
  obtain ⟨a0_2, rfl, w0_2⟩ := g0_2
  obtain ⟨c0_3, l0_3, rfl, g0_3, f0_4⟩ := fit_cons f0_3
  obtain ⟨a0_3, rfl, w0_3⟩ := g0_3
  obtain rfl := fit_nil f0_4
  obtain ⟨a1, rfl, _, _, w1⟩ := open_int Tryz.underlying3 (hval 1 3 v1 rfl rfl) h1
  obtain ⟨l2, rfl, f2_0⟩ := open_flat (n := 6) (ks := [.inl .i64, .inl .i64, .inr true, .inr true, .inl .u64, .inl .i64, .inl .i64]) Tryz.underlying41 (by kernel_rfl) (hval 2 41 v2 rfl rfl) h2
  obtain ⟨c2_0, l2_0, rfl, g2_0, f2_1⟩ := fit_cons f2_0
  obtain ⟨a2_0, rfl, w2_0⟩ := g2_0
  obtain ⟨c2_1, l2_1, rfl, g2_1, f2_2⟩ := fit_cons f2_1
  obtain ⟨a2_1, rfl, w2_1⟩ := g2_1
  obtain ⟨c2_2, l2_2, rfl, g2_2, f2_3⟩ := fit_cons f2_2
  obtain ⟨a2_2, rfl⟩ := g2_2
  obtain ⟨c2_3, l2_3, rfl, g2_3, f2_4⟩ := fit_cons f2_3
  obtain ⟨a2_3, rfl⟩ := g2_3
  obtain ⟨c2_4, l2_4, rfl, g2_4, f2_5⟩ := fit_cons f2_4
  obtain ⟨a2_4, rfl, w2_4⟩ := g2_4
  obtain ⟨c2_5, l2_5, rfl, g2_5, f2_6⟩ := fit_cons f2_5
  obtain ⟨a2_5, rfl, w2_5⟩ := g2_5
  obtain ⟨c2_6, l2_6, rfl, g2_6, f2_7⟩ := fit_cons f2_6
  obtain ⟨a2_6, rfl, w2_6⟩ := g2_6
  obtain rfl := fit_nil f2_7
  clear hA0 hval0
  refine (walk_YardRights a0_0 a0_1 a0_2 a0_3 a1 a2_0 a2_1 a2_2 a2_3 a2_4 a2_5 a2_6 W w0_0 w0_1 w0_2 w0_3 w1 w2_0 w2_1 w2_4 w2_5 w2_6).mono fun e W' ⟨he, bel⟩ => ?_
  subst he
  exact ⟨_, rfl, _, _, _, [], _, [], hW', trodAll_mk1 (shut_bool Tryz.underlying4 _), (trodAll_cons_mk (Below.trod laidOut (by kernel_rfl) (of_decide_eq_true (by kernel_rfl)) k0 bel lt0) (trodAll_cons_mk (Below.trod laidOut (by kernel_rfl) (of_decide_eq_true (by kernel_rfl)) k1 bel lt1) (trodAll_cons_mk (Below.trod laidOut (by kernel_rfl) (of_decide_eq_true (by kernel_rfl)) k2 bel lt2) trodAll_mk0))), rfl, bel.frame _, fun h => by cases h⟩

theorem over : Rows.yardRightsRow.holds Tryz.pinned (OpenSpec.ofChange Rows.yardRightsSpec) :=
  OpenClaim.holds_of_wide 5 Tryz.f5 rfl rfl rfl rfl rfl rfl rfl ⟨rfl, rfl, rfl, rfl, rfl⟩ rfl rfl rfl rfl rfl (by kernel_rfl) Tryz.func5 (by kernel_rfl)
    (of_decide_eq_true (by kernel_rfl)) (by unfold Func.isWrapper; first | (rw [if_pos (by decide +kernel)]; kernel_rfl) | (rw [if_neg (by decide +kernel)]; exact ⟨rfl, rfl⟩))
    (fun os started H enc _ => lifted os started H enc)

theorem proved : Rows.YardRightsSaid := over
end Go.Proofs.YthmjmlkndnijhaaGreat.lawYardRights
