/-
  The statement of PlayRuns: for every input the call answers true, and leaves its arguments as they were. No condition.
-/
import Derived.Test.YtebgjfhaolgcjaaGreatRows
import Derived.Test.YtebgjfhaolgcjaaGreatQLF1
import Derived.Test.YtebgjfhaolgcjaaGreatQLFWPlayRuns
namespace Go.Proofs.YtebgjfhaolgcjaaGreat.lawPlayRuns
open Go.ChangeShapes Go.WideShapes Go.ChangeAt Go.RowKit
open Go.ChangeMaps (open_string shut_string)
set_option linter.unusedVariables false

theorem own : ownKnob Tryz.prog.godebug = none:=by kernel_rfl
theorem laidOut : laidOutB Tryz.prog = true:=by kernel_rfl

set_option maxRecDepth 100000 in
theorem lifted (os : Os) (started : os.Started) (H : Type) (enc : TypeId × Value → H) :
    ReturnsInHanded {} Tryz.checked os 3 .any (Rows.playRunsSpec.pre6 enc Tryz.prog Tryz.f3 Rows.playRunsRow.domain false) (Rows.playRunsSpec.post enc Tryz.prog Tryz.f3 false true false false):=by
  refine returnsInHanded_of_change (C:=Tryz.checked) own started (by kernel_rfl) Tryz.func3
    (ChangeSpec.witness6 (enc:=enc) (C:=Tryz.checked) false ⟨#[],#[.agg #[.int .i64 0,.int .i64 0,.int .i64 0,.int .i64 0],.slice none 0 0],[]⟩ 8 (by kernel_rfl) (by kernel_rfl) (by kernel_rfl) (by kernel_rfl)) ?_
  intro W base args ds gs before hval0 hW hcnd _
  have hval : ∀ (j : Nat) t v,Tryz.f3.params[j]? = some t → args[j]? = some v → Value.okWide Tryz.prog W .any base t v:=hval0
  have hW':=hW
  obtain ⟨p,q,hA0,hV,rfl,hfz,hnd⟩:=hW
  have hA : DataW.TrodAll enc Tryz.prog W 0 (fun _=>true) true Tryz.f3.params.toList args.toList ds p:=hA0
  rw [Tryz.params3] at hA hval
  obtain ⟨v0,vs0,d0,ds0,p0,q0,hargs,rfl,rfl,h0,r0⟩:=trodAll_cons hA
  obtain ⟨v1,vs1,d1,ds1,p1,q1,rfl,rfl,rfl,h1,r1⟩:=trodAll_cons r0
  obtain ⟨rfl,rfl,rfl⟩:=trodAll_nil r1
  obtain rfl : args = #[v0,v1]:=by cases args; simp_all
  obtain ⟨rfl,rfl⟩:=trodVars_none hV
  have k0:=h0
  have lt0 : ∀ x ∈ p0,x.block < W.heap.size:=by obtain ⟨m,hm⟩:=k0; exact DataW.trod_lt m _ _ _ hm
  have k1:=h1
  have lt1 : ∀ x ∈ p1,x.block < W.heap.size:=by obtain ⟨m,hm⟩:=k1; exact DataW.trod_lt m _ _ _ hm
  obtain ⟨l0,rfl,f0_0⟩:=zDf (n:=6) (ks:=[.inl .i64,.inl .i64,.inl .i64,.inl .i64]) Tryz.underlying24 (by kernel_rfl) (hval 0 24 v0 rfl rfl) h0
  obtain ⟨c0_0,l0_0,rfl,g0_0,f0_1⟩:=zAS f0_0
  obtain ⟨a0_0,rfl,w0_0⟩:=g0_0
  obtain ⟨c0_1,l0_1,rfl,g0_1,f0_2⟩:=zAS f0_1
  obtain ⟨a0_1,rfl,w0_1⟩:=g0_1
  obtain ⟨c0_2,l0_2,rfl,g0_2,f0_3⟩:=zAS f0_2
  obtain ⟨a0_2,rfl,w0_2⟩:=g0_2
  obtain ⟨c0_3,l0_3,rfl,g0_3,f0_4⟩:=zAS f0_3
  obtain ⟨a0_3,rfl,w0_3⟩:=g0_3
  obtain rfl:=zE5 f0_4
  obtain ⟨a1,len1,cap1,rfl,w1⟩:=zDO (n:=6) (ks:=[.inl .i64,.inl .i64,.inl .i64,.inl .i64,.inr true,.inr true,.inl .u64,.inl .i64]) Tryz.underlying25 (by kernel_rfl) (by kernel_rfl) (by decide) (hval 1 25 v1 rfl rfl) h1
  clear hA0 hval0
  refine (walk_PlayRuns a0_0 a0_1 a0_2 a0_3 a1 len1 cap1 W w0_0 w0_1 w0_2 w0_3 w1).mono fun e W' ⟨he,bel⟩=>?_
  subst he
  exact ⟨_,rfl,_,_,_,[],_,[],hW',trodAll_mk1 (shut_bool Tryz.underlying4 _),(trodAll_cons_mk (Below.trod laidOut (by kernel_rfl) (of_decide_eq_true (by kernel_rfl)) k0 bel lt0) (trodAll_cons_mk (Below.trod laidOut (by kernel_rfl) (of_decide_eq_true (by kernel_rfl)) k1 bel lt1) trodAll_mk0)),rfl,bel.frame _,fun h=>by cases h⟩

theorem over : Rows.playRunsRow.holds Tryz.pinned (OpenSpec.ofChange Rows.playRunsSpec) :=
  OpenClaim.holds_of_wide 3 Tryz.f3 rfl rfl rfl rfl rfl rfl rfl ⟨rfl,rfl,rfl,rfl,rfl⟩ rfl rfl rfl rfl rfl (by kernel_rfl) Tryz.func3 (by kernel_rfl)
    (of_decide_eq_true (by kernel_rfl)) (by unfold Func.isWrapper; first | (rw [if_pos (by decide +kernel)]; kernel_rfl) | (rw [if_neg (by decide +kernel)]; exact ⟨rfl,rfl⟩))
    (fun os started H enc _=>lifted os started H enc)

theorem proved : Rows.PlayRunsSaid:=over
end Go.Proofs.YtebgjfhaolgcjaaGreat.lawPlayRuns
