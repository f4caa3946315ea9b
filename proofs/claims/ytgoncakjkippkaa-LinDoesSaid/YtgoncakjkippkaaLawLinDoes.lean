/-
  The statement of LinDoes: for every input the call answers true, and leaves its arguments as they were. No condition.
-/
import Derived.Test.YtgoncakjkippkaaRows
import Derived.Test.YtgoncakjkippkaaAKit
import Derived.Test.YtgoncakjkippkaaWalkLinDoes
namespace Go.Proofs.Ytgoncakjkippkaa.lawLinDoes
open Go.ChangeShapes Go.WideShapes Go.ChangeAt Go.RowKit
open Go.ChangeMaps (open_string shut_string)
set_option linter.unusedVariables false

theorem own : ownKnob Try.prog.godebug = none := by kernel_rfl
theorem laidOut : laidOutB Try.prog = true := by kernel_rfl

set_option maxRecDepth 100000 in
theorem lifted (os : Os) (started : os.Started) (H : Type) (enc : TypeId × Value → H) :
    ReturnsInHanded {} Try.checked os 3 .any (Rows.linDoesSpec.pre6 enc Try.prog Try.f3 Rows.linDoesRow.domain false) (Rows.linDoesSpec.post enc Try.prog Try.f3 false true false false) := by
  refine returnsInHanded_of_change (C := Try.checked) own started (by kernel_rfl) Try.func3
    (ChangeSpec.witness6 (enc := enc) (C := Try.checked) false ⟨#[], #[.slice none 0 0, .agg #[.int .i64 0, .int .i64 0, .int .i64 0, .int .u64 0, .int .i64 0, .int .i64 0, .int .i64 0, .bool false, .int .u64 0, .int .i64 0, .int .i64 0]], []⟩ 8 (by kernel_rfl) (by kernel_rfl) (by kernel_rfl) (by kernel_rfl)) ?_
  intro W base args ds gs before hval0 hW hcnd _
  have hval : ∀ (j : Nat) t v, Try.f3.params[j]? = some t → args[j]? = some v → Value.okWide Try.prog W .any base t v := hval0
  have hW' := hW
  obtain ⟨p, q, hA0, hV, rfl, hfz, hnd⟩ := hW
  have hA : DataW.TrodAll enc Try.prog W 0 (fun _ => true) true Try.f3.params.toList args.toList ds p := hA0
  rw [Try.params3] at hA hval
  obtain ⟨v0, vs0, d0, ds0, p0, q0, hargs, rfl, rfl, h0, r0⟩ := trodAll_cons hA
  obtain ⟨v1, vs1, d1, ds1, p1, q1, rfl, rfl, rfl, h1, r1⟩ := trodAll_cons r0
  obtain ⟨rfl, rfl, rfl⟩ := trodAll_nil r1
  obtain rfl : args = #[v0, v1] := by cases args; simp_all
  obtain ⟨rfl, rfl⟩ := trodVars_none hV
  have k0 := h0
  have lt0 : ∀ x ∈ p0, x.block < W.heap.size := by obtain ⟨m, hm⟩ := k0; exact DataW.trod_lt m _ _ _ hm
  have k1 := h1
  have lt1 : ∀ x ∈ p1, x.block < W.heap.size := by obtain ⟨m, hm⟩ := k1; exact DataW.trod_lt m _ _ _ hm
  obtain ⟨a0, len0, cap0, rfl, w0⟩ := open_rows (n := 6) (ks := [.inl .u64]) Try.underlying22 (by kernel_rfl) (by kernel_rfl) (by decide) (hval 0 22 v0 rfl rfl) h0
  obtain ⟨l1, rfl, f1_0⟩ := open_flat (n := 6) (ks := [.inl .i64, .inl .i64, .inl .i64, .inl .u64, .inl .i64, .inl .i64, .inl .i64, .inr true, .inl .u64, .inl .i64, .inl .i64]) Try.underlying33 (by kernel_rfl) (hval 1 33 v1 rfl rfl) h1
  obtain ⟨c1_0, l1_0, rfl, g1_0, f1_1⟩ := fit_cons f1_0
  obtain ⟨a1_0, rfl, w1_0⟩ := g1_0
  obtain ⟨c1_1, l1_1, rfl, g1_1, f1_2⟩ := fit_cons f1_1
  obtain ⟨a1_1, rfl, w1_1⟩ := g1_1
  obtain ⟨c1_2, l1_2, rfl, g1_2, f1_3⟩ := fit_cons f1_2
  obtain ⟨a1_2, rfl, w1_2⟩ := g1_2
  obtain ⟨c1_3, l1_3, rfl, g1_3, f1_4⟩ := fit_cons f1_3
  obtain ⟨a1_3, rfl, w1_3⟩ := g1_3
  obtain ⟨c1_4, l1_4, rfl, g1_4, f1_5⟩ := fit_cons f1_4
  obtain ⟨a1_4, rfl, w1_4⟩ := g1_4
  obtain ⟨c1_5, l1_5, rfl, g1_5, f1_6⟩ := fit_cons f1_5
  obtain ⟨a1_5, rfl, w1_5⟩ := g1_5
  obtain ⟨c1_6, l1_6, rfl, g1_6, f1_7⟩ := fit_cons f1_6
  obtain ⟨a1_6, rfl, w1_6⟩ := g1_6
  obtain ⟨c1_7, l1_7, rfl, g1_7, f1_8⟩ := fit_cons f1_7
  obtain ⟨a1_7, rfl⟩ := g1_7
  obtain ⟨c1_8, l1_8, rfl, g1_8, f1_9⟩ := fit_cons f1_8
  obtain ⟨a1_8, rfl, w1_8⟩ := g1_8
  obtain ⟨c1_9, l1_9, rfl, g1_9, f1_10⟩ := fit_cons f1_9
  obtain ⟨a1_9, rfl, w1_9⟩ := g1_9
  obtain ⟨c1_10, l1_10, rfl, g1_10, f1_11⟩ := fit_cons f1_10
  obtain ⟨a1_10, rfl, w1_10⟩ := g1_10
  obtain rfl := fit_nil f1_11
  clear hA0 hval0
  refine (walk_LinDoes a0 len0 cap0 a1_0 a1_1 a1_2 a1_3 a1_4 a1_5 a1_6 a1_7 a1_8 a1_9 a1_10 W w0 w1_0 w1_1 w1_2 w1_3 w1_4 w1_5 w1_6 w1_8 w1_9 w1_10).mono fun e W' ⟨he, bel⟩ => ?_
  subst he
  exact ⟨_, rfl, _, _, _, [], _, [], hW', trodAll_mk1 (shut_bool Try.underlying4 _), (trodAll_cons_mk (Below.trod laidOut (by kernel_rfl) (of_decide_eq_true (by kernel_rfl)) k0 bel lt0) (trodAll_cons_mk (Below.trod laidOut (by kernel_rfl) (of_decide_eq_true (by kernel_rfl)) k1 bel lt1) trodAll_mk0)), rfl, bel.frame _, fun h => by cases h⟩

theorem over : Rows.linDoesRow.holds Try.pinned (OpenSpec.ofChange Rows.linDoesSpec) :=
  OpenClaim.holds_of_wide 3 Try.f3 rfl rfl rfl rfl rfl rfl rfl ⟨rfl, rfl, rfl, rfl, rfl⟩ rfl rfl rfl rfl rfl (by kernel_rfl) Try.func3 (by kernel_rfl)
    (of_decide_eq_true (by kernel_rfl)) (by unfold Func.isWrapper; first | (rw [if_pos (by decide +kernel)]; kernel_rfl) | (rw [if_neg (by decide +kernel)]; exact ⟨rfl, rfl⟩))
    (fun os started H enc _ => lifted os started H enc)

theorem proved : Rows.LinDoesSaid := over
end Go.Proofs.Ytgoncakjkippkaa.lawLinDoes
