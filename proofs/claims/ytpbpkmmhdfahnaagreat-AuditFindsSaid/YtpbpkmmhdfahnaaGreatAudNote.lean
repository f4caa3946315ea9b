/-
  What package audit's watch keeps of an event that may be. No condition but that it may be, and that numbers fit their kinds.
-/
import Derived.Test.YtpbpkmmhdfahnaaGreatAudMay
import Derived.Test.YtpbpkmmhdfahnaaGreatAMem
namespace Go.Proofs.YtpbpkmmhdfahnaaGreat
open Go.RowKit Go.Maps
set_option linter.unusedVariables false

section
variable {P : Program} {t kt et : TypeId} {qe : IntKind} {κ : Type} {kv : κ → Value} {ok : κ → Prop} {w w' : World} {b n : Nat} {F : κ → Int} {M : κ → Bool}
theorem KMap.keep {T : Nat → Prop} (h : KMap P kt et qe kv ok w b n F M) (e : Keep T w w') (hn : ¬ T b) : KMap P kt et qe kv ok w' b n F M := by
  have hl := h.lt
  obtain ⟨D, ⟨es, clock, h1, h2⟩, k⟩ := h
  exact ⟨D, ⟨es, clock, (e.block b hl hn).trans h1, h2⟩, k⟩
variable {ops : Array Oper} {o : Oper} {a : Act} {Q : Exit → Act → World → Prop} {K : Act → World → Prop} {E : Prop}
theorem step_km_put (hg : o.guard = none) (m x v : Operand) (t : TypeId) (hop : o.op = Op.mapUpdate t m x v) (ty : KTy P t kt et qe kv ok) (hm : a.eval m = .map (some b)) (h : KMap P kt et qe kv ok w b n F M) (hn : n < maxLen) (k : κ) (c : Int) (hx : a.eval x = kv k) (hv : a.eval v = .int qe c)
    (hk : ok k) (hc : (Lit.int qe c).wf = true) (F' : κ → Int) (M' : κ → Bool) (hF : F' k = c) (hM : M' k = true) (hF' : ∀ z, z ≠ k → F' z = F z) (hM' : ∀ z, z ≠ k → M' z = M z)
    (hK : ∀ w', KMap P kt et qe kv ok w' b (n + 1) F' M' → w.grownBy w' (some b) → K (a.put o.dst undef) w') : if Region.wanted o (yielded ops a.tmps) = true then Oper.wp P o a w K Q else E := by
  have hw : Region.wanted o (yielded ops a.tmps) = true := by simp [Region.wanted, hg]
  rw [if_pos hw]
  exact wp_km_put m x v t hop ty hm h hn k c hx hv hk hc F' M' hF hM hF' hM' hK
end
theorem fld2 (s e g lo hi : Int) (w : World) : (Instr.field 61 (wd s e g lo hi) 2).run Tryz.prog w = .ok (i64 g) w := by
  simp [Instr.field, go_sem, asAgg]
attribute [local go_sem ↓] fld2
def updF (f : Int → Int) (e : Ev) : Int → Int := fun c => if e.cell = c then e.new else f c
def updG (g : Int → Int → Option Int) (e : Ev) : Int → Int → Option Int := fun who c => if e.who = who ∧ e.cell = c ∧ e.op = 0 then some e.old else g who c
theorem wf_u64 {a : Int} (h0 : 0 ≤ a) (h1 : a ≤ 18446744073709551615) : (Lit.int .u64 a).wf = true := WalkArith.wf_u64 (by omega)

section
variable {w : World} {wb bc bg : Nat} {t s so d : Int} {N n : Nat} {f : Int → Int} {g : Int → Int → Option Int} {e : Ev}
theorem updF_fit (h : ∀ c, 0 ≤ f c ∧ f c ≤ 18446744073709551615) (hf : e.Fit) (c : Int) : 0 ≤ updF f e c ∧ updF f e c ≤ 18446744073709551615 := by
  unfold updF
  split
  · exact ⟨hf.n0, hf.n1⟩
  · exact h c
theorem gens_same (h : GMap N w bg n g) (hc : N ≤ e.cell ∨ e.op ≠ 0) : GMap N w bg (n + 1) (updG g e) :=
  (h.as (F' := fun k => genO (updG g e k.1 k.2)) (M' := fun k => (updG g e k.1 k.2).isSome) (fun k hk => by
    show _ = genO (updG g e k.1 k.2)
    unfold updG
    rw [if_neg (fun hh => by have := hk.2.2.1; omega)]) (fun k hk => by
    show _ = (updG g e k.1 k.2).isSome
    unfold updG
    rw [if_neg (fun hh => by have := hk.2.2.1; omega)])).mono (Nat.le_succ n)

set_option maxRecDepth 100000 in
set_option maxHeartbeats 4000000 in
theorem anote_any (h : WAt w wb bc bg t s so d N n f g) (hf : e.Fit) (c1 : 0 ≤ e.who) (c2 : e.who < t) (c3 : 0 ≤ e.cell) (c4 : e.cell < 2 * N + 2 * t) (hn : n < 100000) :
    Calls Tryz.prog 21 #[pt wb, e.v] w fun r w' => r = .returned (.tuple #[]) ∧ WAt w' wb bc bg t s so d N (n + 1) (updF f e) (updG g e) ∧ Keep (fun k => k = bc ∨ k = bg) w w' := by
  have hlay := h.lay
  have HLA := Lib.hid hlay
  have n1 := hlay.n1
  have n2 := hlay.n2
  have t1 := hlay.t1
  have t2 := hlay.t2
  have hb0 := below_new (Below.refl w.heap.size w) (e.obj 40)
  have HK0 : Hid (Keep (fun k => k = bc ∨ k = bg) w (w.alloc (e.obj 40))) := Lib.hid (Keep.of_below hb0)
  have HO : Hid (IsObj (w.alloc (e.obj 40)) w.heap.size [i64 e.who, i64 e.op, i64 e.cell, u64 e.old, u64 e.new, .bool e.ok]) := Lib.hid (IsObj.made w [i64 e.who, i64 e.op, i64 e.cell, u64 e.old, u64 e.new, .bool e.ok] 40)
  have lc : bc < w.heap.size := by obtain ⟨M, hm⟩ := h.cells; exact hm.lt
  have lg : bg < w.heap.size := h.gens.lt
  have lw : wb < w.heap.size := h.obj.lt
  have ncg := h.cg
  have nwc := h.wc
  have nwg := h.wg
  obtain ⟨MC, hmc⟩ := (h.later hb0).cells
  have HMC := Lib.hid hmc
  have HGM := Lib.hid (h.later hb0).gens
  have HWO := Lib.hid (h.later hb0).obj
  have HFIT := Lib.hid (updF_fit h.fit hf)
  have HFE := Lib.hid hf
  have HWF := Lib.hid (wf_u64 hf.n0 hf.n1)
  have HFC := Lib.hid hf.c
  have HLO : Hid (e.cell < N → lookOk N (e.who, e.cell)) := Lib.hid (fun hh => ⟨wf_small c1 (by omega), c3, hh, n2⟩)
  have hgen : (Lit.int .i64 (e.old / 8 % 8192)).wf = true := WalkArith.wf_i64 (by omega)
  have HGEN := Lib.hid hgen
  clear h hb0 hf hlay hmc hgen
  go_enter Tryz.func21, Tryz.ntmps21
  go_wp2_with fail
  generalize w.alloc (e.obj 40) = w1 at HO HMC HGM HWO HK0 ⊢
  generalize w.heap.size = eb at HO lc lg lw ⊢
  obtain ⟨e0, e1, e2, e3, e4, e5⟩ : _ ∧ _ ∧ _ ∧ _ ∧ _ ∧ _ := ⟨HO.out.at' 0 _ rfl, HO.out.at' 1 _ rfl, HO.out.at' 2 _ rfl, HO.out.at' 3 _ rfl, HO.out.at' 4 _ rfl, HO.out.at' 5 _ rfl⟩
  have q4 := HWO.out.at' 4 _ rfl
  refine wp_region_seqS ((fun w' => w'.cell? ⟨wb, 4, none⟩ = some (.map (some bc)) ∧ w'.cell? ⟨eb, 2, none⟩ = some (i64 e.cell) ∧ w'.cell? ⟨eb, 4, none⟩ = some (u64 e.new))) ((0, true) :: (1, true) :: (2, true) :: (3, true) :: (4, true) :: (5, true) :: (6, true) :: (7, true) :: (8, false) :: []) (by kernel_rfl) (by kernel_rfl) (by kernel_rfl) (by decide) (fun _ _ _ _ _ h => h) (⟨q4, e2, e4⟩) ?_
  repeat (first | (refine seq_take (v := ?_) rfl ?_ ?_ ?_; rotate_left 1; rfl; (focus (intro wS hSw; obtain ⟨x1, x2, x3⟩ := hSw; go_simp; first | done | with_reducible rfl)); (try simp only [Act.put, List.setIfInBounds_toArray, List.set_cons_zero, List.set_cons_succ])) | (refine seq_skip rfl ?_ ?_; rfl; (try simp only [Act.put, List.setIfInBounds_toArray, List.set_cons_zero, List.set_cons_succ])))
  refine seq_run rfl (fun K hK => ?_)
  refine step_km_put rfl _ _ _ _ rfl cells_ty rfl HMC.out.drew (by unfold maxLen; omega) e.cell e.new rfl rfl HFC.out HWF.out (updF f e) (fun z => decide (z = e.cell) || MC z) (by unfold updF; rw [if_pos rfl]) (by simp) (fun z hz => by unfold updF; rw [if_neg (fun h => hz h.symm)]) (fun z hz => by simp [hz]) (fun w2 hM2 hG2 => ?_)
  have hK2 : Keep (fun k => k = bc) w1 w2 := (Keep.refl _ w1).drew.trans (Keep.of_grown hG2 (fun k h => (Option.some.inj h).symm))
  have HO2 := Lib.hid (HO.out.keep hK2 (by omega))
  have HWO2 := Lib.hid (HWO.out.keep hK2 (by omega))
  have HGM2 : Hid (GMap N w2 bg n g) := Lib.hid (HGM.out.keep hK2 (by omega))
  have HK2 := Lib.hid (HK0.out.trans (hK2.mono (fun k h => .inl h)))
  have HM2 := Lib.hid hM2
  clear hM2 hG2 hK2 HMC HGM HO HWO HK0 e0 e1 e2 e3 e4 e5 q4
  obtain ⟨e0, e1, e2, e3, e4, e5⟩ : _ ∧ _ ∧ _ ∧ _ ∧ _ ∧ _ := ⟨HO2.out.at' 0 _ rfl, HO2.out.at' 1 _ rfl, HO2.out.at' 2 _ rfl, HO2.out.at' 3 _ rfl, HO2.out.at' 4 _ rfl, HO2.out.at' 5 _ rfl⟩
  obtain ⟨q0, q1, q2, q3, q4, q5⟩ : _ ∧ _ ∧ _ ∧ _ ∧ _ ∧ _ := ⟨HWO2.out.at' 0 _ rfl, HWO2.out.at' 1 _ rfl, HWO2.out.at' 2 _ rfl, HWO2.out.at' 3 _ rfl, HWO2.out.at' 4 _ rfl, HWO2.out.at' 5 _ rfl⟩
  refine hK.out _ _ ⟨q4, e2, e4⟩ (fun _ => ?_)
  (try simp only [Act.put])
  clear hK K
  refine seq_done ?_
  rcases (by omega : e.cell < N ∨ N ≤ e.cell) with hcn | hcn
  · have HKK : Hid (KindC t N e.cell 1 e.cell) := .inr (.inl ⟨c3, hcn, rfl, rfl⟩)
    have HLO2 := Lib.hid (HLO.out hcn)
    clear HLO
    by_cases hop : e.op = 0
    · have z0 : (e.op == 0) = true := by simp [hop]
      have HOP := Lib.hid hop
      clear hop
      go_wp2_with fail
      refine wp_region_seq ((0, true) :: (1, true) :: (2, true) :: (3, true) :: (4, true) :: (5, true) :: (6, false) :: (7, true) :: (8, true) :: (9, true) :: (10, true) :: (11, true) :: []) (by kernel_rfl) (by kernel_rfl) (by kernel_rfl) (by decide) (fun _ _ _ _ _ h => h) (fun hHeld => ?_)
      repeat (first
        | (refine seq_take (v := ?_) rfl ?_ ?_ ?_; rotate_left 1; rfl; (focus (intro wS hSw; have hk := below_rule hSw; go_simp; first | done | with_reducible rfl)); (try simp only [Act.put, List.setIfInBounds_toArray, List.set_cons_zero, List.set_cons_succ]))
        | (refine seq_skip rfl ?_ ?_; rfl; (try simp only [Act.put, List.setIfInBounds_toArray, List.set_cons_zero, List.set_cons_succ]))
        | (refine seq_run rfl (fun K hK => ?_); go_simp; (try (first | (go_at_call 44; refine (ckind_any t s so d N e.cell 1 e.cell _ HLA.out HKK.out).mono ?_; rintro e w' ⟨rfl, hb'⟩))); (try go_wp2_with fail); refine hK.out _ _ ?_ ?_; (focus (first | exact below_step hHeld hb' | exact below_new hHeld _ | exact hHeld)); (try clear hb'); clear hHeld hK K; intro hHeld; (try simp only [Act.put, List.setIfInBounds_toArray, List.set_cons_zero, List.set_cons_succ])))
      first | refine seq_done ?_ | skip
      have HO3 := Lib.hid (HO2.out.later hHeld)
      have HWO3 := Lib.hid (HWO2.out.later hHeld)
      have HM3 := Lib.hid (HM2.out.later hHeld)
      have HGM3 : Hid (GMap N _ bg n g) := Lib.hid (HGM2.out.later hHeld)
      have HK3 := Lib.hid (HK2.out.trans (Keep.of_below hHeld))
      clear hHeld HO2 HWO2 HM2 HGM2 HK2 e0 e1 e2 e3 e4 e5 q0 q1 q2 q3 q4 q5
      obtain ⟨e0, e1, e2, e3, e4, e5⟩ : _ ∧ _ ∧ _ ∧ _ ∧ _ ∧ _ := ⟨HO3.out.at' 0 _ rfl, HO3.out.at' 1 _ rfl, HO3.out.at' 2 _ rfl, HO3.out.at' 3 _ rfl, HO3.out.at' 4 _ rfl, HO3.out.at' 5 _ rfl⟩
      have q5 := HWO3.out.at' 5 _ rfl
      go_wp2_with fail
      refine wp_region_seqS ((fun w' => w'.cell? ⟨wb, 5, none⟩ = some (.map (some bg)) ∧ w'.cell? ⟨eb, 0, none⟩ = some (i64 e.who) ∧ w'.cell? ⟨eb, 3, none⟩ = some (u64 e.old))) ((0, true) :: (1, true) :: (2, true) :: (3, true) :: (4, true) :: (5, true) :: (6, true) :: (7, true) :: (8, true) :: (9, true) :: (10, false) :: (11, true) :: (12, false) :: []) (by kernel_rfl) (by kernel_rfl) (by kernel_rfl) (by decide) (fun _ _ _ _ _ h => h) (⟨q5, e0, e3⟩) ?_
      repeat (first | (refine seq_take (v := ?_) rfl ?_ ?_ ?_; rotate_left 1; rfl; (focus (intro wS hSw; obtain ⟨x1, x2, x3⟩ := hSw; go_simp; first | done | with_reducible rfl)); (try simp only [Act.put, List.setIfInBounds_toArray, List.set_cons_zero, List.set_cons_succ])) | (refine seq_skip rfl ?_ ?_; rfl; (try simp only [Act.put, List.setIfInBounds_toArray, List.set_cons_zero, List.set_cons_succ])))
      refine seq_run rfl (fun K hK => ?_)
      go_simp
      go_at_call 31
      refine (unpack_any e.old _ HFE.out.o0 HFE.out.o1).mono ?_
      rintro r w4 ⟨rfl, hb4⟩
      (try go_wp2_with fail)
      have HO4 := Lib.hid (HO3.out.drew.later hb4)
      have HWO4 := Lib.hid (HWO3.out.drew.later hb4)
      have HM4 := Lib.hid (HM3.out.drew.later hb4)
      have HGM4 : Hid (GMap N w4 bg n g) := Lib.hid (HGM3.out.drew.later hb4)
      have HK4 := Lib.hid (HK3.out.trans (Keep.of_below (below_step (Below.refl _ _).drew hb4)))
      clear hb4 HO3 HWO3 HM3 HGM3 HK3 e0 e1 e2 e3 e4 e5 q5
      have e0 := HO4.out.at' 0 _ rfl
      have e3 := HO4.out.at' 3 _ rfl
      have q5 := HWO4.out.at' 5 _ rfl
      refine hK.out _ _ ⟨q5, e0, e3⟩ (fun _ => ?_)
      (try simp only [Act.put, List.setIfInBounds_toArray, List.set_cons_zero, List.set_cons_succ])
      clear hK K
      repeat (first | (refine seq_take (v := ?_) rfl ?_ ?_ ?_; rotate_left 1; rfl; (focus (intro wS hSw; obtain ⟨x1, x2, x3⟩ := hSw; go_simp; first | done | with_reducible rfl)); (try simp only [Act.put, List.setIfInBounds_toArray, List.set_cons_zero, List.set_cons_succ])) | (refine seq_skip rfl ?_ ?_; rfl; (try simp only [Act.put, List.setIfInBounds_toArray, List.set_cons_zero, List.set_cons_succ])))
      refine seq_run rfl (fun K hK => ?_)
      refine step_km_put rfl _ _ _ _ rfl (gens_ty N) rfl HGM4.out (by unfold maxLen; omega) (e.who, e.cell) (e.old / 8 % 8192) rfl rfl HLO2.out HGEN.out (fun k => genO (updG g e k.1 k.2)) (fun k => (updG g e k.1 k.2).isSome)
        (by show genO (updG g e e.who e.cell) = _; unfold updG; rw [if_pos ⟨rfl, rfl, HOP.out⟩]; rfl) (by show (updG g e e.who e.cell).isSome = _; unfold updG; rw [if_pos ⟨rfl, rfl, HOP.out⟩]; rfl)
        (fun z hz => by show genO (updG g e z.1 z.2) = _; unfold updG; rw [if_neg (fun hh => hz (Prod.ext hh.1.symm hh.2.1.symm))]) (fun z hz => by show (updG g e z.1 z.2).isSome = _; unfold updG; rw [if_neg (fun hh => hz (Prod.ext hh.1.symm hh.2.1.symm))]) (fun w5 hM5 hG5 => ?_)
      have hK5 : Keep (fun k => k = bg) w4 w5 := Keep.of_grown hG5 (fun k h => (Option.some.inj h).symm)
      have HO5 := Lib.hid (HO4.out.keep hK5 (by omega))
      have HWO5 := Lib.hid (HWO4.out.keep hK5 (by omega))
      have HM5 := Lib.hid (HM4.out.keep hK5 (by omega))
      have HGM5 := Lib.hid hM5
      have HK5 := Lib.hid (HK4.out.trans (hK5.mono (fun k h => .inr h)))
      clear hM5 hG5 hK5 HO4 HWO4 HM4 HGM4 HK4 e0 e3 q5
      refine hK.out _ _ ⟨HWO5.out.at' 5 _ rfl, HO5.out.at' 0 _ rfl, HO5.out.at' 3 _ rfl⟩ (fun _ => ?_)
      (try simp only [Act.put])
      clear hK K
      refine seq_done ?_
      go_wp2_with fail
      go_end0
      exact ⟨rfl, ⟨HLA.out, HWO5.out, ⟨_, HM5.out⟩, HGM5.out, HFIT.out, by omega, nwc, nwg, ncg⟩, HK5.out⟩
    · have z0 : (e.op == 0) = false := beq_false_of_ne hop
      have HOP := Lib.hid hop
      clear hop
      go_wp2_with fail
      refine wp_region_seq ((0, true) :: (1, true) :: (2, true) :: (3, true) :: (4, true) :: (5, true) :: (6, false) :: (7, true) :: (8, true) :: (9, true) :: (10, true) :: (11, true) :: []) (by kernel_rfl) (by kernel_rfl) (by kernel_rfl) (by decide) (fun _ _ _ _ _ h => h) (fun hHeld => ?_)
      repeat (first
        | (refine seq_take (v := ?_) rfl ?_ ?_ ?_; rotate_left 1; rfl; (focus (intro wS hSw; have hk := below_rule hSw; go_simp; first | done | with_reducible rfl)); (try simp only [Act.put, List.setIfInBounds_toArray, List.set_cons_zero, List.set_cons_succ]))
        | (refine seq_skip rfl ?_ ?_; rfl; (try simp only [Act.put, List.setIfInBounds_toArray, List.set_cons_zero, List.set_cons_succ]))
        | (refine seq_run rfl (fun K hK => ?_); go_simp; (try (first | (go_at_call 44; refine (ckind_any t s so d N e.cell 1 e.cell _ HLA.out HKK.out).mono ?_; rintro e w' ⟨rfl, hb'⟩))); (try go_wp2_with fail); refine hK.out _ _ ?_ ?_; (focus (first | exact below_step hHeld hb' | exact below_new hHeld _ | exact hHeld)); (try clear hb'); clear hHeld hK K; intro hHeld; (try simp only [Act.put, List.setIfInBounds_toArray, List.set_cons_zero, List.set_cons_succ])))
      first | refine seq_done ?_ | skip
      have HO3 := Lib.hid (HO2.out.later hHeld)
      have HWO3 := Lib.hid (HWO2.out.later hHeld)
      have HM3 := Lib.hid (HM2.out.later hHeld)
      have HGM3 : Hid (GMap N _ bg n g) := Lib.hid (HGM2.out.later hHeld)
      have HK3 := Lib.hid (HK2.out.trans (Keep.of_below hHeld))
      clear hHeld HO2 HWO2 HM2 HGM2 HK2 e0 e1 e2 e3 e4 e5 q0 q1 q2 q3 q4 q5
      obtain ⟨e0, e1, e2, e3, e4, e5⟩ : _ ∧ _ ∧ _ ∧ _ ∧ _ ∧ _ := ⟨HO3.out.at' 0 _ rfl, HO3.out.at' 1 _ rfl, HO3.out.at' 2 _ rfl, HO3.out.at' 3 _ rfl, HO3.out.at' 4 _ rfl, HO3.out.at' 5 _ rfl⟩
      go_wp2_with fail
      go_end0
      exact ⟨rfl, ⟨HLA.out, HWO3.out, ⟨_, HM3.out⟩, gens_same HGM3.out (.inr HOP.out), HFIT.out, by omega, nwc, nwg, ncg⟩, HK3.out⟩
  · obtain ⟨kk, kx, hkk, hk1⟩ : ∃ kk kx, KindC t N e.cell kk kx ∧ kk ≠ 1 := by
      rcases (by omega : e.cell < 2 * N ∨ (2 * N ≤ e.cell ∧ e.cell < 2 * N + t) ∨ (2 * N + t ≤ e.cell)) with hq | hq | hq
      · exact ⟨2, e.cell - N, .inr (.inr (.inl ⟨hcn, hq, rfl, rfl⟩)), by decide⟩
      · exact ⟨3, e.cell - 2 * N, .inr (.inr (.inr (.inl ⟨hq.1, hq.2, rfl, rfl⟩))), by decide⟩
      · exact ⟨4, e.cell - (2 * N + t), .inr (.inr (.inr (.inr ⟨hq, c4, rfl, rfl⟩))), by decide⟩
    have z0 : (kk == 1) = false := beq_false_of_ne hk1
    have HKK := Lib.hid hkk
    clear HLO hkk hk1
    go_wp2_with fail
    refine wp_region_seq ((0, true) :: (1, true) :: (2, true) :: (3, true) :: (4, true) :: (5, true) :: (6, false) :: (7, true) :: (8, true) :: (9, true) :: (10, true) :: (11, true) :: []) (by kernel_rfl) (by kernel_rfl) (by kernel_rfl) (by decide) (fun _ _ _ _ _ h => h) (fun hHeld => ?_)
    repeat (first
      | (refine seq_take (v := ?_) rfl ?_ ?_ ?_; rotate_left 1; rfl; (focus (intro wS hSw; have hk := below_rule hSw; go_simp; first | done | with_reducible rfl)); (try simp only [Act.put, List.setIfInBounds_toArray, List.set_cons_zero, List.set_cons_succ]))
      | (refine seq_skip rfl ?_ ?_; rfl; (try simp only [Act.put, List.setIfInBounds_toArray, List.set_cons_zero, List.set_cons_succ]))
      | (refine seq_run rfl (fun K hK => ?_); go_simp; (try (first | (go_at_call 44; refine (ckind_any t s so d N e.cell kk kx _ HLA.out HKK.out).mono ?_; rintro e w' ⟨rfl, hb'⟩))); (try go_wp2_with fail); refine hK.out _ _ ?_ ?_; (focus (first | exact below_step hHeld hb' | exact below_new hHeld _ | exact hHeld)); (try clear hb'); clear hHeld hK K; intro hHeld; (try simp only [Act.put, List.setIfInBounds_toArray, List.set_cons_zero, List.set_cons_succ])))
    first | refine seq_done ?_ | skip
    have HO3 := Lib.hid (HO2.out.later hHeld)
    have HWO3 := Lib.hid (HWO2.out.later hHeld)
    have HM3 := Lib.hid (HM2.out.later hHeld)
    have HGM3 : Hid (GMap N _ bg n g) := Lib.hid (HGM2.out.later hHeld)
    have HK3 := Lib.hid (HK2.out.trans (Keep.of_below hHeld))
    clear hHeld HO2 HWO2 HM2 HGM2 HK2 e0 e1 e2 e3 e4 e5 q0 q1 q2 q3 q4 q5
    obtain ⟨e0, e1, e2, e3, e4, e5⟩ : _ ∧ _ ∧ _ ∧ _ ∧ _ ∧ _ := ⟨HO3.out.at' 0 _ rfl, HO3.out.at' 1 _ rfl, HO3.out.at' 2 _ rfl, HO3.out.at' 3 _ rfl, HO3.out.at' 4 _ rfl, HO3.out.at' 5 _ rfl⟩
    go_wp2_with fail
    go_end0
    exact ⟨rfl, ⟨HLA.out, HWO3.out, ⟨_, HM3.out⟩, gens_same HGM3.out (.inl hcn), HFIT.out, by omega, nwc, nwg, ncg⟩, HK3.out⟩
end
end Go.Proofs.YtpbpkmmhdfahnaaGreat
