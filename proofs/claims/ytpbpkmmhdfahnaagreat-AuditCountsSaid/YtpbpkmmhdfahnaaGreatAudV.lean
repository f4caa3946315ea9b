/-
  The contracts of package audit's watch: whether an event may be. No condition but that numbers fit their kinds.
-/
import Derived.Test.YtpbpkmmhdfahnaaGreatWatch
import Derived.Test.YtpbpkmmhdfahnaaGreatEvRow
import Derived.Test.YtpbpkmmhdfahnaaGreatAudW
namespace Go.Proofs.YtpbpkmmhdfahnaaGreat
open Go.RowKit
set_option linter.unusedVariables false

theorem wf_haz {N : Nat} {t a : Int} (n2 : (N : Int) ≤ 4096) (t2 : t ≤ 64) (h0 : 0 ≤ a) (h1 : a < t) : (Lit.int .i64 (2 * N + a)).wf = true := WalkArith.wf_i64 (by omega)
section
variable {w : World} {wb bc bg : Nat} {t s so d : Int} {N n : Nat} {f : Int → Int} {g : Int → Int → Option Int} {e : Ev}
set_option maxRecDepth 100000 in
set_option maxHeartbeats 8000000 in
theorem amay_value (h : WAt w wb bc bg t s so d N n f g) (hf : e.Fit) (c1 : 0 ≤ e.who) (c2 : e.who < t) (c3 : 0 ≤ e.cell) (c6 : N ≤ e.cell) (c7 : e.cell < 2 * N) (j : Int) (hj : e.cell - N = j) (b : Bool) (hb : b = true ↔ MayV N s f g e) :
    Calls Tryz.prog 46 #[pt wb, e.v, i64 j] w fun r w' => r = .returned (.bool b) ∧ Below w.heap.size w w' := by
  unfold MayV at hb
  rw [hj] at hb
  have hlay := h.lay
  have HLA := Lib.hid hlay
  have n1 := hlay.n1
  have n2 := hlay.n2
  have t1 := hlay.t1
  have t2 := hlay.t2
  have s1 := hlay.s1
  have s2 := hlay.s2
  have hb0 := below_new (Below.refl w.heap.size w) (e.obj 40)
  have HB0 := Lib.hid hb0
  have HO : Hid (IsObj (w.alloc (e.obj 40)) w.heap.size [i64 e.who, i64 e.op, i64 e.cell, u64 e.old, u64 e.new, .bool e.ok]) := Lib.hid (IsObj.made w [i64 e.who, i64 e.op, i64 e.cell, u64 e.old, u64 e.new, .bool e.ok] 40)
  have HW := Lib.hid (h.later hb0)
  have HFE := Lib.hid hf
  have hwb0 := (h.later hb0).obj.lt
  have hxb := h.fit j
  obtain ⟨x, hx⟩ : ∃ x, f j = x := ⟨_, rfl⟩
  rw [hx] at hxb
  obtain ⟨xb0, xb1⟩ := hxb
  have HX := Lib.hid hx
  have hj0 : 0 ≤ j := by omega
  have hj1 : j < N := by omega
  have HJW := Lib.hid (wf_small hj0 (by omega))
  have HLO : Hid (lookOk N (e.who, j)) := ⟨wf_small c1 (by omega), hj0, hj1, n2⟩
  clear h hb0 hf hlay
  go_enter Tryz.func46, Tryz.ntmps46

  go_wp2_with fail
  generalize w.alloc (e.obj 40) = w1 at HO HW HB0 ⊢
  generalize w.heap.size = eb at HO ⊢
  obtain ⟨e0, e1, e2, e3, e4, e5⟩ : _ ∧ _ ∧ _ ∧ _ ∧ _ ∧ _ := ⟨HO.out.at' 0 _ rfl, HO.out.at' 1 _ rfl, HO.out.at' 2 _ rfl, HO.out.at' 3 _ rfl, HO.out.at' 4 _ rfl, HO.out.at' 5 _ rfl⟩
  obtain ⟨q0, q1, q2, q3, q4, q5⟩ : _ ∧ _ ∧ _ ∧ _ ∧ _ ∧ _ := ⟨HW.out.obj.at' 0 _ rfl, HW.out.obj.at' 1 _ rfl, HW.out.obj.at' 2 _ rfl, HW.out.obj.at' 3 _ rfl, HW.out.obj.at' 4 _ rfl, HW.out.obj.at' 5 _ rfl⟩
  obtain ⟨MC, hmc⟩ := HW.out.cells
  have HMC := Lib.hid hmc
  clear hmc
  go_cut [7] (fun s7 wx => ∃ bv, s7 = .pointer (some ⟨bv, 0, none⟩) ∧ Hid (IsObj wx bv [i64 (x % 4), i64 (x / 4 % 2), i64 (x / 8 % 8192), i64 (x / 65536 % 16777216), i64 (x / 1099511627776)]) ∧ Hid (Below w1.heap.size w1 wx))
  case first =>
    refine wp_region_seqT (fun w' => Below w1.heap.size w1 w') (.take 0 (.take 1 (.take 2 (.take 3 (.take 4 (.take 5 (.take 6 (.take 7 (.take 8 (.two 9 (.take 10 (.two 11 (.one 12 (.one 13 .nil)) 12 (.one 11 (.one 13 .nil)))) 12 (.one 9 (.take 10 (.one 11 (.one 13 .nil)))))))))))))) (by kernel_rfl) (by kernel_rfl) (by kernel_rfl) (by decide) (fun _ _ _ _ _ h => h) (Below.refl _ _).drew ?_
    repeat (refine seqT_take (v := ?_) rfl ?_ ?_ ?_; rotate_left 1; rfl; (focus (intro wS hSw; have hk := below_rule hSw; go_simp; first | done | with_reducible rfl)); (try simp only [Act.put, List.setIfInBounds_toArray, List.set_cons_zero, List.set_cons_succ]))
    have HG : Hid (Below w1.heap.size w1 w1.drew) := (Below.refl _ _).drew
    generalize w1.drew = ww0 at HG ⊢
    refine ⟨?_, ?_⟩
    · refine runT rfl (fun K hK => ?_)
      go_simp
      go_at_call 35
      refine (cword_any t s so d j _).mono ?_
      rintro r ww1 ⟨rfl, hb⟩
      (try go_wp2_with fail)
      replace HG := Lib.hid (below_step HG.out hb)
      clear hb
      refine hK.out _ _ HG.out (fun _ => ?_)
      (try simp only [Act.put, List.setIfInBounds_toArray, List.set_cons_zero, List.set_cons_succ])
      clear hK K
      try clear ww0
      refine seqT_take (v := .int .u64 x) rfl rfl (fun wS hSw => km_take _ _ _ rfl cells_ty rfl (HMC.out.later hSw) j x rfl HJW.out HX.out) ?_
      (try simp only [Act.put, List.setIfInBounds_toArray, List.set_cons_zero, List.set_cons_succ])
      refine ⟨?_, ?_⟩
      · refine runT rfl (fun K hK => ?_)
        go_simp
        go_at_call 31
        refine (unpack_any x _ xb0 xb1).mono ?_
        rintro r ww2 ⟨rfl, hb⟩
        (try go_wp2_with fail)
        replace HG := Lib.hid (below_step HG.out hb)
        clear hb
        refine hK.out _ _ HG.out (fun _ => ?_)
        (try simp only [Act.put, List.setIfInBounds_toArray, List.set_cons_zero, List.set_cons_succ])
        clear hK K
        try clear ww1
        refine runT rfl (fun K hK => ?_)
        go_simp
        have hb := below_new (Below.refl ww2.heap.size ww2) (.cells #[i64 0, i64 0, i64 0, i64 0, i64 0] 61)
        have Hv : Hid (IsObj (ww2.alloc (.cells #[i64 0, i64 0, i64 0, i64 0, i64 0] 61)) ww2.heap.size [i64 0, i64 0, i64 0, i64 0, i64 0]) := IsObj.made ww2 [i64 0, i64 0, i64 0, i64 0, i64 0] 61
        have Hsv : Hid (w1.heap.size ≤ ww2.heap.size) := HG.out.size
        replace HG := Lib.hid (below_step HG.out hb)
        clear hb
        generalize ww2.alloc (.cells #[i64 0, i64 0, i64 0, i64 0, i64 0] 61) = ww3 at HG Hv ⊢
        generalize ww2.heap.size = bv at Hv Hsv ⊢
        refine hK.out _ _ HG.out (fun _ => ?_)
        (try simp only [Act.put, List.setIfInBounds_toArray, List.set_cons_zero, List.set_cons_succ])
        clear hK K
        try clear ww2
        refine runT rfl (fun K hK => ?_)
        have q0 := Hv.out.at' 0 _ rfl
        have q1 := Hv.out.at' 1 _ rfl
        have q2 := Hv.out.at' 2 _ rfl
        have q3 := Hv.out.at' 3 _ rfl
        have q4 := Hv.out.at' 4 _ rfl
        have f0 := Hv.out.fz 0
        have f1 := Hv.out.fz 1
        have f2 := Hv.out.fz 2
        have f3 := Hv.out.fz 3
        have f4 := Hv.out.fz 4
        go_simp
        clear q0 q1 q2 q3 q4 f0 f1 f2 f3 f4
        obtain ⟨g1, g2, g3⟩ := aset5 HG.out Hv.out Hsv.out (i64 (x % 4)) (i64 (x / 4 % 2)) (i64 (x / 8 % 8192)) (i64 (x / 65536 % 16777216)) (i64 (x / 1099511627776))
        replace HG := Lib.hid g1
        replace Hv := Lib.hid g2
        clear g1 g2 g3
        generalize ((((ww3.setCell ⟨bv, 0, none⟩ (i64 (x % 4))).setCell ⟨bv, 1, none⟩ (i64 (x / 4 % 2))).setCell ⟨bv, 2, none⟩ (i64 (x / 8 % 8192))).setCell ⟨bv, 3, none⟩ (i64 (x / 65536 % 16777216))).setCell ⟨bv, 4, none⟩ (i64 (x / 1099511627776)) = wy0 at HG Hv ⊢
        refine hK.out _ _ HG.out (fun _ => ?_)
        (try simp only [Act.put, List.setIfInBounds_toArray, List.set_cons_zero, List.set_cons_succ])
        clear hK K
        refine seqT_done ?_
        go_wp2_with fail
        go_meet
        exact ⟨bv, rfl, Hv, HG⟩
      · refine runT rfl (fun K hK => ?_)
        go_simp
        have hb := below_new (Below.refl ww1.heap.size ww1) (.cells #[i64 0, i64 0, i64 0, i64 0, i64 0] 61)
        have Hv : Hid (IsObj (ww1.alloc (.cells #[i64 0, i64 0, i64 0, i64 0, i64 0] 61)) ww1.heap.size [i64 0, i64 0, i64 0, i64 0, i64 0]) := IsObj.made ww1 [i64 0, i64 0, i64 0, i64 0, i64 0] 61
        have Hsv : Hid (w1.heap.size ≤ ww1.heap.size) := HG.out.size
        replace HG := Lib.hid (below_step HG.out hb)
        clear hb
        generalize ww1.alloc (.cells #[i64 0, i64 0, i64 0, i64 0, i64 0] 61) = ww2 at HG Hv ⊢
        generalize ww1.heap.size = bv at Hv Hsv ⊢
        refine hK.out _ _ HG.out (fun _ => ?_)
        (try simp only [Act.put, List.setIfInBounds_toArray, List.set_cons_zero, List.set_cons_succ])
        clear hK K
        try clear ww1
        refine runT rfl (fun K hK => ?_)
        go_simp
        go_at_call 31
        refine (unpack_any x _ xb0 xb1).mono ?_
        rintro r ww3 ⟨rfl, hb⟩
        (try go_wp2_with fail)
        replace Hv := Lib.hid (Hv.out.later hb)
        replace HG := Lib.hid (below_step HG.out hb)
        clear hb
        refine hK.out _ _ HG.out (fun _ => ?_)
        (try simp only [Act.put, List.setIfInBounds_toArray, List.set_cons_zero, List.set_cons_succ])
        clear hK K
        try clear ww2
        refine runT rfl (fun K hK => ?_)
        have q0 := Hv.out.at' 0 _ rfl
        have q1 := Hv.out.at' 1 _ rfl
        have q2 := Hv.out.at' 2 _ rfl
        have q3 := Hv.out.at' 3 _ rfl
        have q4 := Hv.out.at' 4 _ rfl
        have f0 := Hv.out.fz 0
        have f1 := Hv.out.fz 1
        have f2 := Hv.out.fz 2
        have f3 := Hv.out.fz 3
        have f4 := Hv.out.fz 4
        go_simp
        clear q0 q1 q2 q3 q4 f0 f1 f2 f3 f4
        obtain ⟨g1, g2, g3⟩ := aset5 HG.out Hv.out Hsv.out (i64 (x % 4)) (i64 (x / 4 % 2)) (i64 (x / 8 % 8192)) (i64 (x / 65536 % 16777216)) (i64 (x / 1099511627776))
        replace HG := Lib.hid g1
        replace Hv := Lib.hid g2
        clear g1 g2 g3
        generalize ((((ww3.setCell ⟨bv, 0, none⟩ (i64 (x % 4))).setCell ⟨bv, 1, none⟩ (i64 (x / 4 % 2))).setCell ⟨bv, 2, none⟩ (i64 (x / 8 % 8192))).setCell ⟨bv, 3, none⟩ (i64 (x / 65536 % 16777216))).setCell ⟨bv, 4, none⟩ (i64 (x / 1099511627776)) = wy0 at HG Hv ⊢
        refine hK.out _ _ HG.out (fun _ => ?_)
        (try simp only [Act.put, List.setIfInBounds_toArray, List.set_cons_zero, List.set_cons_succ])
        clear hK K
        refine seqT_done ?_
        go_wp2_with fail
        go_meet
        exact ⟨bv, rfl, Hv, HG⟩
    · refine runT rfl (fun K hK => ?_)
      go_simp
      have hb := below_new (Below.refl ww0.heap.size ww0) (.cells #[i64 0, i64 0, i64 0, i64 0, i64 0] 61)
      have Hv : Hid (IsObj (ww0.alloc (.cells #[i64 0, i64 0, i64 0, i64 0, i64 0] 61)) ww0.heap.size [i64 0, i64 0, i64 0, i64 0, i64 0]) := IsObj.made ww0 [i64 0, i64 0, i64 0, i64 0, i64 0] 61
      have Hsv : Hid (w1.heap.size ≤ ww0.heap.size) := HG.out.size
      replace HG := Lib.hid (below_step HG.out hb)
      clear hb
      generalize ww0.alloc (.cells #[i64 0, i64 0, i64 0, i64 0, i64 0] 61) = ww1 at HG Hv ⊢
      generalize ww0.heap.size = bv at Hv Hsv ⊢
      refine hK.out _ _ HG.out (fun _ => ?_)
      (try simp only [Act.put, List.setIfInBounds_toArray, List.set_cons_zero, List.set_cons_succ])
      clear hK K
      try clear ww0
      refine runT rfl (fun K hK => ?_)
      go_simp
      go_at_call 35
      refine (cword_any t s so d j _).mono ?_
      rintro r ww2 ⟨rfl, hb⟩
      (try go_wp2_with fail)
      replace Hv := Lib.hid (Hv.out.later hb)
      replace HG := Lib.hid (below_step HG.out hb)
      clear hb
      refine hK.out _ _ HG.out (fun _ => ?_)
      (try simp only [Act.put, List.setIfInBounds_toArray, List.set_cons_zero, List.set_cons_succ])
      clear hK K
      try clear ww1
      refine seqT_take (v := .int .u64 x) rfl rfl (fun wS hSw => km_take _ _ _ rfl cells_ty rfl (HMC.out.later hSw) j x rfl HJW.out HX.out) ?_
      (try simp only [Act.put, List.setIfInBounds_toArray, List.set_cons_zero, List.set_cons_succ])
      refine runT rfl (fun K hK => ?_)
      go_simp
      go_at_call 31
      refine (unpack_any x _ xb0 xb1).mono ?_
      rintro r ww3 ⟨rfl, hb⟩
      (try go_wp2_with fail)
      replace Hv := Lib.hid (Hv.out.later hb)
      replace HG := Lib.hid (below_step HG.out hb)
      clear hb
      refine hK.out _ _ HG.out (fun _ => ?_)
      (try simp only [Act.put, List.setIfInBounds_toArray, List.set_cons_zero, List.set_cons_succ])
      clear hK K
      try clear ww2
      refine runT rfl (fun K hK => ?_)
      have q0 := Hv.out.at' 0 _ rfl
      have q1 := Hv.out.at' 1 _ rfl
      have q2 := Hv.out.at' 2 _ rfl
      have q3 := Hv.out.at' 3 _ rfl
      have q4 := Hv.out.at' 4 _ rfl
      have f0 := Hv.out.fz 0
      have f1 := Hv.out.fz 1
      have f2 := Hv.out.fz 2
      have f3 := Hv.out.fz 3
      have f4 := Hv.out.fz 4
      go_simp
      clear q0 q1 q2 q3 q4 f0 f1 f2 f3 f4
      obtain ⟨g1, g2, g3⟩ := aset5 HG.out Hv.out Hsv.out (i64 (x % 4)) (i64 (x / 4 % 2)) (i64 (x / 8 % 8192)) (i64 (x / 65536 % 16777216)) (i64 (x / 1099511627776))
      replace HG := Lib.hid g1
      replace Hv := Lib.hid g2
      clear g1 g2 g3
      generalize ((((ww3.setCell ⟨bv, 0, none⟩ (i64 (x % 4))).setCell ⟨bv, 1, none⟩ (i64 (x / 4 % 2))).setCell ⟨bv, 2, none⟩ (i64 (x / 8 % 8192))).setCell ⟨bv, 3, none⟩ (i64 (x / 65536 % 16777216))).setCell ⟨bv, 4, none⟩ (i64 (x / 1099511627776)) = wy0 at HG Hv ⊢
      refine hK.out _ _ HG.out (fun _ => ?_)
      (try simp only [Act.put, List.setIfInBounds_toArray, List.set_cons_zero, List.set_cons_succ])
      clear hK K
      refine seqT_done ?_
      go_wp2_with fail
      go_meet
      exact ⟨bv, rfl, Hv, HG⟩
  case rest =>
    obtain ⟨bv, rfl, Hv, HG⟩ := hcut
    clear e0 e1 e2 e3 e4 e5 q0 q1 q2 q3 q4 q5
    have HB2 := Lib.hid (below_step HB0.out HG.out)
    have HO2 := Lib.hid (HO.out.later HG.out)
    have HW2 := Lib.hid (HW.out.later HG.out)
    clear HG HO HW HB0 HMC
    obtain ⟨MC, hmc⟩ := HW2.out.cells
    have HMC := Lib.hid hmc
    clear hmc
    obtain ⟨a0, ha0⟩ : ∃ z, x % 4 = z := ⟨_, rfl⟩
    obtain ⟨a1, ha1⟩ : ∃ z, x / 4 % 2 = z := ⟨_, rfl⟩
    obtain ⟨a2, ha2⟩ : ∃ z, x / 8 % 8192 = z := ⟨_, rfl⟩
    obtain ⟨a3, ha3⟩ : ∃ z, x / 65536 % 16777216 = z := ⟨_, rfl⟩
    obtain ⟨a4, ha4⟩ : ∃ z, x / 1099511627776 = z := ⟨_, rfl⟩
    have hv := Hv.out
    simp only [ha0, ha1, ha2, ha3, ha4] at hv
    have HV := Lib.hid hv
    clear hv Hv
    obtain ⟨e0, e1, e2, e3, e4, e5⟩ : _ ∧ _ ∧ _ ∧ _ ∧ _ ∧ _ := ⟨HO2.out.at' 0 _ rfl, HO2.out.at' 1 _ rfl, HO2.out.at' 2 _ rfl, HO2.out.at' 3 _ rfl, HO2.out.at' 4 _ rfl, HO2.out.at' 5 _ rfl⟩
    obtain ⟨q0, q1, q2, q3, q4, q5⟩ : _ ∧ _ ∧ _ ∧ _ ∧ _ ∧ _ := ⟨HW2.out.obj.at' 0 _ rfl, HW2.out.obj.at' 1 _ rfl, HW2.out.obj.at' 2 _ rfl, HW2.out.obj.at' 3 _ rfl, HW2.out.obj.at' 4 _ rfl, HW2.out.obj.at' 5 _ rfl⟩
    obtain ⟨u0, u1, u2, u3, u4⟩ : _ ∧ _ ∧ _ ∧ _ ∧ _ := ⟨HV.out.at' 0 _ rfl, HV.out.at' 1 _ rfl, HV.out.at' 2 _ rfl, HV.out.at' 3 _ rfl, HV.out.at' 4 _ rfl⟩
    have y5 : IntKind.u64.wrap j = j := by rw [IntKind.wrap_u64]; omega
    have y6 : IntKind.u64.wrap (j + 1) = j + 1 := by rw [IntKind.wrap_u64]; omega

    rw [HX.out] at hb
    simp only [ha0, ha2] at hb
    rcases (show ((e.op = 0) ∧ (g e.who j = none)) ∨ ((e.op = 0) ∧ (∃ rr, g e.who j = some rr ∧ rr / 8 % 8192 ≠ a2)) ∨ ((e.op = 0) ∧ (∃ rr, g e.who j = some rr ∧ rr / 8 % 8192 = a2) ∧ (f (2 * N + e.who) ≠ j + 1)) ∨ ((e.op = 0) ∧ (∃ rr, g e.who j = some rr ∧ rr / 8 % 8192 = a2) ∧ (f (2 * N + e.who) = j + 1)) ∨ ((e.op = 1) ∧ (e.who ≠ j / s)) ∨ ((e.op = 1) ∧ (e.who = j / s) ∧ (a0 = 1)) ∨ ((e.op = 1) ∧ (e.who = j / s) ∧ (a0 ≠ 1)) ∨ ((e.op ≠ 0) ∧ (e.op ≠ 1)) from by
        by_cases k0 : e.op = 0
        · cases hgg : g e.who j with
          | none => exact .inl ⟨k0, rfl⟩
          | some rr =>
            by_cases m1 : rr / 8 % 8192 = a2
            · by_cases m2 : f (2 * N + e.who) = j + 1
              · exact .inr (.inr (.inr (.inl ⟨k0, ⟨rr, rfl, m1⟩, m2⟩)))
              · exact .inr (.inr (.inl ⟨k0, ⟨rr, rfl, m1⟩, m2⟩))
            · exact .inr (.inl ⟨k0, rr, rfl, m1⟩)
        by_cases k1 : e.op = 1
        · by_cases m1 : e.who = j / s <;> by_cases m2 : a0 = 1 <;> simp [k1, m1, m2]
        · simp [k0, k1]) with ⟨gop, hld⟩ | ⟨gop, hld⟩ | ⟨gop, hld, gh⟩ | ⟨gop, hld, gh⟩ | ⟨gop, g1⟩ | ⟨gop, g1, g2⟩ | ⟨gop, g1, g2⟩ | ⟨gn0, gn1⟩
    · obtain rfl : b = false := by
        cases b with
        | false => rfl
        | true =>
          rcases hb.1 rfl with ⟨q, ⟨r, hr, hr2⟩, hr3⟩ | ⟨q, q2, q3⟩
          · rw [hld] at hr
            cases hr
          · omega
      have z0 : (e.op == 0) = true := by simp [gop]
      have z1 : (e.op == 1) = false := by simp [gop]
      have z2 : (e.op == 2) = false := by simp [gop]
      have z3 : (e.op == 3) = false := by simp [gop]
      have HLD := Lib.hid hld
      clear hb ha0 ha1 ha2 ha3 ha4 gop hld
      go_wp2_with fail
      refine wp_region_seq ((0, true) :: (1, true) :: (2, true) :: (3, true) :: (4, true) :: (5, true) :: (6, true) :: (7, true) :: (8, true) :: (9, true) :: (10, true) :: (11, true) :: (12, true) :: (13, true) :: []) (by kernel_rfl) (by kernel_rfl) (by kernel_rfl) (by decide) (fun _ _ _ _ _ h => h) (fun hHeld => ?_)
      iterate 8 (first | (refine seq_take (v := ?_) rfl ?_ ?_ ?_; rotate_left 1; rfl; (focus (intro wS hSw; have hk := below_rule hSw; go_simp; first | done | with_reducible rfl)); (try simp only [Act.put, List.setIfInBounds_toArray, List.set_cons_zero, List.set_cons_succ])) | (refine seq_skip rfl ?_ ?_; rfl; (try simp only [Act.put, List.setIfInBounds_toArray, List.set_cons_zero, List.set_cons_succ])))
      refine seq_take (v := .tuple #[.int .i64 0, .bool false]) rfl rfl (fun wS hSw => km_take_ok _ _ _ rfl (gens_ty N) rfl (HW2.out.gens.later hSw) (e.who, j) _ _ rfl HLO.out (by show genO (g e.who j) = _; rw [HLD.out]; rfl) (by show (g e.who j).isSome = _; rw [HLD.out]; rfl)) ?_
      (try simp only [Act.put, List.setIfInBounds_toArray, List.set_cons_zero, List.set_cons_succ])
      iterate 5 (first | (refine seq_take (v := ?_) rfl ?_ ?_ ?_; rotate_left 1; rfl; (focus (intro wS hSw; have hk := below_rule hSw; go_simp; first | done | with_reducible rfl)); (try simp only [Act.put, List.setIfInBounds_toArray, List.set_cons_zero, List.set_cons_succ])) | (refine seq_skip rfl ?_ ?_; rfl; (try simp only [Act.put, List.setIfInBounds_toArray, List.set_cons_zero, List.set_cons_succ])))
      refine seq_done ?_
      have HB3 := Lib.hid (below_step HB2.out hHeld)
      have HO3 := Lib.hid (HO2.out.later hHeld)
      have HW3 := Lib.hid (HW2.out.later hHeld)
      have HV3 := Lib.hid (HV.out.later hHeld)
      have HMC3 := Lib.hid (HMC.out.later hHeld)
      generalize wc.drew = w3 at HB3 HO3 HW3 HV3 HMC3 hHeld ⊢
      clear e0 e1 e2 e3 e4 e5 q0 q1 q2 q3 q4 q5 u0 u1 u2 u3 u4 hHeld
      obtain ⟨e0, e1, e2, e3, e4, e5⟩ : _ ∧ _ ∧ _ ∧ _ ∧ _ ∧ _ := ⟨HO3.out.at' 0 _ rfl, HO3.out.at' 1 _ rfl, HO3.out.at' 2 _ rfl, HO3.out.at' 3 _ rfl, HO3.out.at' 4 _ rfl, HO3.out.at' 5 _ rfl⟩
      obtain ⟨q0, q1, q2, q3, q4, q5⟩ : _ ∧ _ ∧ _ ∧ _ ∧ _ ∧ _ := ⟨HW3.out.obj.at' 0 _ rfl, HW3.out.obj.at' 1 _ rfl, HW3.out.obj.at' 2 _ rfl, HW3.out.obj.at' 3 _ rfl, HW3.out.obj.at' 4 _ rfl, HW3.out.obj.at' 5 _ rfl⟩
      obtain ⟨u0, u1, u2, u3, u4⟩ : _ ∧ _ ∧ _ ∧ _ ∧ _ := ⟨HV3.out.at' 0 _ rfl, HV3.out.at' 1 _ rfl, HV3.out.at' 2 _ rfl, HV3.out.at' 3 _ rfl, HV3.out.at' 4 _ rfl⟩
      go_wp2_with fail
      refine wp_region_seq ((0, true) :: (1, true) :: (2, true) :: (3, true) :: (4, true) :: (5, true) :: (6, true) :: (7, true) :: (8, true) :: (9, true) :: (10, true) :: (11, true) :: (12, true) :: (13, true) :: (14, true) :: (15, true) :: (16, true) :: (17, true) :: (20, true) :: (21, true) :: (22, true) :: (18, false) :: (19, true) :: (23, true) :: (24, true) :: (25, true) :: []) (by kernel_rfl) (by kernel_rfl) (by kernel_rfl) (by decide) (fun _ _ _ _ _ h => h) (fun hHeld => ?_)
      iterate 21 (first | (refine seq_take (v := ?_) rfl ?_ ?_ ?_; rotate_left 1; rfl; (focus (intro wS hSw; have hk := below_rule hSw; go_simp; first | done | with_reducible rfl)); (try simp only [Act.put, List.setIfInBounds_toArray, List.set_cons_zero, List.set_cons_succ])) | (refine seq_skip rfl ?_ ?_; rfl; (try simp only [Act.put, List.setIfInBounds_toArray, List.set_cons_zero, List.set_cons_succ])))
      refine seq_run rfl (fun K hK => ?_)
      go_simp
      refine hK.out _ _ hHeld (fun _ => ?_)
      (try simp only [Act.put, List.setIfInBounds_toArray, List.set_cons_zero, List.set_cons_succ])
      clear hK K
      iterate 1 (first | (refine seq_take (v := ?_) rfl ?_ ?_ ?_; rotate_left 1; rfl; (focus (intro wS hSw; have hk := below_rule hSw; go_simp; first | done | with_reducible rfl)); (try simp only [Act.put, List.setIfInBounds_toArray, List.set_cons_zero, List.set_cons_succ])) | (refine seq_skip rfl ?_ ?_; rfl; (try simp only [Act.put, List.setIfInBounds_toArray, List.set_cons_zero, List.set_cons_succ])))
      iterate 3 (first | (refine seq_take (v := ?_) rfl ?_ ?_ ?_; rotate_left 1; rfl; (focus (intro wS hSw; have hk := below_rule hSw; go_simp; first | done | with_reducible rfl)); (try simp only [Act.put, List.setIfInBounds_toArray, List.set_cons_zero, List.set_cons_succ])) | (refine seq_skip rfl ?_ ?_; rfl; (try simp only [Act.put, List.setIfInBounds_toArray, List.set_cons_zero, List.set_cons_succ])))
      refine seq_done ?_
      go_wp2_with fail
      go_ret
      exact ⟨rfl, below_step HB3.out hHeld⟩
    · have hld0 := hld
      obtain ⟨rr, hld1, hld2⟩ := hld
      obtain rfl : b = false := by
        cases b with
        | false => rfl
        | true =>
          rcases hb.1 rfl with ⟨q, ⟨r, hr, hr2⟩, hr3⟩ | ⟨q, q2, q3⟩
          · rw [hld1] at hr
            cases hr
            exact absurd hr2 hld2
          · omega
      clear hld0
      obtain ⟨r2, hr2x⟩ : ∃ z, rr / 8 % 8192 = z := ⟨_, rfl⟩
      have HR2 := Lib.hid hr2x
      rw [hr2x] at hld2
      have z0 : (e.op == 0) = true := by simp [gop]
      have z1 : (e.op == 1) = false := by simp [gop]
      have z2 : (e.op == 2) = false := by simp [gop]
      have z3 : (e.op == 3) = false := by simp [gop]
      have HLD := Lib.hid hld1
      have gg : (r2 == a2) = false := beq_false_of_ne hld2
      clear hb ha0 ha1 ha2 ha3 ha4 gop hld1 hld2 hr2x
      go_wp2_with fail
      refine wp_region_seq ((0, true) :: (1, true) :: (2, true) :: (3, true) :: (4, true) :: (5, true) :: (6, true) :: (7, true) :: (8, true) :: (9, true) :: (10, true) :: (11, true) :: (12, true) :: (13, true) :: []) (by kernel_rfl) (by kernel_rfl) (by kernel_rfl) (by decide) (fun _ _ _ _ _ h => h) (fun hHeld => ?_)
      iterate 8 (first | (refine seq_take (v := ?_) rfl ?_ ?_ ?_; rotate_left 1; rfl; (focus (intro wS hSw; have hk := below_rule hSw; go_simp; first | done | with_reducible rfl)); (try simp only [Act.put, List.setIfInBounds_toArray, List.set_cons_zero, List.set_cons_succ])) | (refine seq_skip rfl ?_ ?_; rfl; (try simp only [Act.put, List.setIfInBounds_toArray, List.set_cons_zero, List.set_cons_succ])))
      refine seq_take (v := .tuple #[.int .i64 r2, .bool true]) rfl rfl (fun wS hSw => km_take_ok _ _ _ rfl (gens_ty N) rfl (HW2.out.gens.later hSw) (e.who, j) _ _ rfl HLO.out (by show genO (g e.who j) = _; rw [HLD.out]; exact HR2.out) (by show (g e.who j).isSome = _; rw [HLD.out]; rfl)) ?_
      (try simp only [Act.put, List.setIfInBounds_toArray, List.set_cons_zero, List.set_cons_succ])
      iterate 5 (first | (refine seq_take (v := ?_) rfl ?_ ?_ ?_; rotate_left 1; rfl; (focus (intro wS hSw; have hk := below_rule hSw; go_simp; first | done | with_reducible rfl)); (try simp only [Act.put, List.setIfInBounds_toArray, List.set_cons_zero, List.set_cons_succ])) | (refine seq_skip rfl ?_ ?_; rfl; (try simp only [Act.put, List.setIfInBounds_toArray, List.set_cons_zero, List.set_cons_succ])))
      refine seq_done ?_
      have HB3 := Lib.hid (below_step HB2.out hHeld)
      have HO3 := Lib.hid (HO2.out.later hHeld)
      have HW3 := Lib.hid (HW2.out.later hHeld)
      have HV3 := Lib.hid (HV.out.later hHeld)
      have HMC3 := Lib.hid (HMC.out.later hHeld)
      generalize wc.drew = w3 at HB3 HO3 HW3 HV3 HMC3 hHeld ⊢
      clear e0 e1 e2 e3 e4 e5 q0 q1 q2 q3 q4 q5 u0 u1 u2 u3 u4 hHeld
      obtain ⟨e0, e1, e2, e3, e4, e5⟩ : _ ∧ _ ∧ _ ∧ _ ∧ _ ∧ _ := ⟨HO3.out.at' 0 _ rfl, HO3.out.at' 1 _ rfl, HO3.out.at' 2 _ rfl, HO3.out.at' 3 _ rfl, HO3.out.at' 4 _ rfl, HO3.out.at' 5 _ rfl⟩
      obtain ⟨q0, q1, q2, q3, q4, q5⟩ : _ ∧ _ ∧ _ ∧ _ ∧ _ ∧ _ := ⟨HW3.out.obj.at' 0 _ rfl, HW3.out.obj.at' 1 _ rfl, HW3.out.obj.at' 2 _ rfl, HW3.out.obj.at' 3 _ rfl, HW3.out.obj.at' 4 _ rfl, HW3.out.obj.at' 5 _ rfl⟩
      obtain ⟨u0, u1, u2, u3, u4⟩ : _ ∧ _ ∧ _ ∧ _ ∧ _ := ⟨HV3.out.at' 0 _ rfl, HV3.out.at' 1 _ rfl, HV3.out.at' 2 _ rfl, HV3.out.at' 3 _ rfl, HV3.out.at' 4 _ rfl⟩
      go_wp2_with fail
      refine wp_region_seq ((0, true) :: (1, true) :: (2, true) :: (3, true) :: (4, true) :: (5, true) :: (6, true) :: (7, true) :: (8, true) :: (9, true) :: (10, true) :: (11, true) :: (12, true) :: (13, true) :: (14, true) :: (15, true) :: (16, true) :: (17, true) :: (20, true) :: (21, true) :: (22, true) :: (18, false) :: (19, true) :: (23, true) :: (24, true) :: (25, true) :: []) (by kernel_rfl) (by kernel_rfl) (by kernel_rfl) (by decide) (fun _ _ _ _ _ h => h) (fun hHeld => ?_)
      iterate 21 (first | (refine seq_take (v := ?_) rfl ?_ ?_ ?_; rotate_left 1; rfl; (focus (intro wS hSw; have hk := below_rule hSw; go_simp; first | done | with_reducible rfl)); (try simp only [Act.put, List.setIfInBounds_toArray, List.set_cons_zero, List.set_cons_succ])) | (refine seq_skip rfl ?_ ?_; rfl; (try simp only [Act.put, List.setIfInBounds_toArray, List.set_cons_zero, List.set_cons_succ])))
      refine seq_run rfl (fun K hK => ?_)
      go_simp
      refine hK.out _ _ hHeld (fun _ => ?_)
      (try simp only [Act.put, List.setIfInBounds_toArray, List.set_cons_zero, List.set_cons_succ])
      clear hK K
      iterate 1 (first | (refine seq_take (v := ?_) rfl ?_ ?_ ?_; rotate_left 1; rfl; (focus (intro wS hSw; have hk := below_rule hSw; go_simp; first | done | with_reducible rfl)); (try simp only [Act.put, List.setIfInBounds_toArray, List.set_cons_zero, List.set_cons_succ])) | (refine seq_skip rfl ?_ ?_; rfl; (try simp only [Act.put, List.setIfInBounds_toArray, List.set_cons_zero, List.set_cons_succ])))
      iterate 3 (first | (refine seq_take (v := ?_) rfl ?_ ?_ ?_; rotate_left 1; rfl; (focus (intro wS hSw; have hk := below_rule hSw; go_simp; first | done | with_reducible rfl)); (try simp only [Act.put, List.setIfInBounds_toArray, List.set_cons_zero, List.set_cons_succ])) | (refine seq_skip rfl ?_ ?_; rfl; (try simp only [Act.put, List.setIfInBounds_toArray, List.set_cons_zero, List.set_cons_succ])))
      refine seq_done ?_
      go_wp2_with fail
      go_ret
      exact ⟨rfl, below_step HB3.out hHeld⟩
    · have hld0 := hld
      obtain ⟨rr, hld1, hld2⟩ := hld
      obtain rfl : b = false := by
        cases b with
        | false => rfl
        | true =>
          rcases hb.1 rfl with ⟨q, ⟨r, hr, hr2⟩, hr3⟩ | ⟨q, q2, q3⟩
          · exact absurd hr3 gh
          · omega
      clear hld0
      obtain ⟨r2, hr2x⟩ : ∃ z, rr / 8 % 8192 = z := ⟨_, rfl⟩
      have HR2 := Lib.hid hr2x
      rw [hr2x] at hld2
      obtain ⟨hh, hhe⟩ : ∃ z, f (2 * (N : Int) + e.who) = z := ⟨_, rfl⟩
      have HHZ := Lib.hid hhe
      rw [hhe] at gh
      have z0 : (e.op == 0) = true := by simp [gop]
      have z1 : (e.op == 1) = false := by simp [gop]
      have z2 : (e.op == 2) = false := by simp [gop]
      have z3 : (e.op == 3) = false := by simp [gop]
      have HLD := Lib.hid hld1
      have gg : (r2 == a2) = true := beq_iff_eq.2 hld2
      have g9 : (hh == j + 1) = false := beq_false_of_ne gh
      clear hb ha0 ha1 ha2 ha3 ha4 gop gh hld1 hld2 hr2x hhe
      go_wp2_with fail
      refine wp_region_seq ((0, true) :: (1, true) :: (2, true) :: (3, true) :: (4, true) :: (5, true) :: (6, true) :: (7, true) :: (8, true) :: (9, true) :: (10, true) :: (11, true) :: (12, true) :: (13, true) :: []) (by kernel_rfl) (by kernel_rfl) (by kernel_rfl) (by decide) (fun _ _ _ _ _ h => h) (fun hHeld => ?_)
      iterate 8 (first | (refine seq_take (v := ?_) rfl ?_ ?_ ?_; rotate_left 1; rfl; (focus (intro wS hSw; have hk := below_rule hSw; go_simp; first | done | with_reducible rfl)); (try simp only [Act.put, List.setIfInBounds_toArray, List.set_cons_zero, List.set_cons_succ])) | (refine seq_skip rfl ?_ ?_; rfl; (try simp only [Act.put, List.setIfInBounds_toArray, List.set_cons_zero, List.set_cons_succ])))
      refine seq_take (v := .tuple #[.int .i64 r2, .bool true]) rfl rfl (fun wS hSw => km_take_ok _ _ _ rfl (gens_ty N) rfl (HW2.out.gens.later hSw) (e.who, j) _ _ rfl HLO.out (by show genO (g e.who j) = _; rw [HLD.out]; exact HR2.out) (by show (g e.who j).isSome = _; rw [HLD.out]; rfl)) ?_
      (try simp only [Act.put, List.setIfInBounds_toArray, List.set_cons_zero, List.set_cons_succ])
      iterate 5 (first | (refine seq_take (v := ?_) rfl ?_ ?_ ?_; rotate_left 1; rfl; (focus (intro wS hSw; have hk := below_rule hSw; go_simp; first | done | with_reducible rfl)); (try simp only [Act.put, List.setIfInBounds_toArray, List.set_cons_zero, List.set_cons_succ])) | (refine seq_skip rfl ?_ ?_; rfl; (try simp only [Act.put, List.setIfInBounds_toArray, List.set_cons_zero, List.set_cons_succ])))
      refine seq_done ?_
      have HB3 := Lib.hid (below_step HB2.out hHeld)
      have HO3 := Lib.hid (HO2.out.later hHeld)
      have HW3 := Lib.hid (HW2.out.later hHeld)
      have HV3 := Lib.hid (HV.out.later hHeld)
      have HMC3 := Lib.hid (HMC.out.later hHeld)
      generalize wc.drew = w3 at HB3 HO3 HW3 HV3 HMC3 hHeld ⊢
      clear e0 e1 e2 e3 e4 e5 q0 q1 q2 q3 q4 q5 u0 u1 u2 u3 u4 hHeld
      obtain ⟨e0, e1, e2, e3, e4, e5⟩ : _ ∧ _ ∧ _ ∧ _ ∧ _ ∧ _ := ⟨HO3.out.at' 0 _ rfl, HO3.out.at' 1 _ rfl, HO3.out.at' 2 _ rfl, HO3.out.at' 3 _ rfl, HO3.out.at' 4 _ rfl, HO3.out.at' 5 _ rfl⟩
      obtain ⟨q0, q1, q2, q3, q4, q5⟩ : _ ∧ _ ∧ _ ∧ _ ∧ _ ∧ _ := ⟨HW3.out.obj.at' 0 _ rfl, HW3.out.obj.at' 1 _ rfl, HW3.out.obj.at' 2 _ rfl, HW3.out.obj.at' 3 _ rfl, HW3.out.obj.at' 4 _ rfl, HW3.out.obj.at' 5 _ rfl⟩
      obtain ⟨u0, u1, u2, u3, u4⟩ : _ ∧ _ ∧ _ ∧ _ ∧ _ := ⟨HV3.out.at' 0 _ rfl, HV3.out.at' 1 _ rfl, HV3.out.at' 2 _ rfl, HV3.out.at' 3 _ rfl, HV3.out.at' 4 _ rfl⟩
      go_wp2_with fail
      refine wp_region_seq ((0, true) :: (1, true) :: (2, true) :: (3, true) :: (4, true) :: (5, true) :: (6, true) :: (7, true) :: (8, true) :: (9, true) :: (10, true) :: (11, true) :: (12, true) :: (13, true) :: (14, true) :: (15, true) :: (16, true) :: (17, true) :: (20, true) :: (21, true) :: (22, true) :: (18, false) :: (19, true) :: (23, true) :: (24, true) :: (25, true) :: []) (by kernel_rfl) (by kernel_rfl) (by kernel_rfl) (by decide) (fun _ _ _ _ _ h => h) (fun hHeld => ?_)
      iterate 21 (first | (refine seq_take (v := ?_) rfl ?_ ?_ ?_; rotate_left 1; rfl; (focus (intro wS hSw; have hk := below_rule hSw; go_simp; first | done | with_reducible rfl)); (try simp only [Act.put, List.setIfInBounds_toArray, List.set_cons_zero, List.set_cons_succ])) | (refine seq_skip rfl ?_ ?_; rfl; (try simp only [Act.put, List.setIfInBounds_toArray, List.set_cons_zero, List.set_cons_succ])))
      refine seq_run rfl (fun K hK => ?_)
      go_simp
      go_at_call 62
      refine (chazard_any t s so d N e.who _ HLA.out c1 (by omega)).mono ?_
      rintro r w9 ⟨rfl, hb'⟩
      (try go_wp2_with fail)
      refine hK.out _ _ (below_step hHeld hb') ?_
      replace hHeld := below_step hHeld hb'
      clear hb' hK K
      intro _
      (try simp only [Act.put, List.setIfInBounds_toArray, List.set_cons_zero, List.set_cons_succ])
      refine seq_take (v := .int .u64 hh) rfl rfl (fun wS hSw => km_take _ _ _ rfl cells_ty rfl (HMC3.out.later hSw) (2 * N + e.who) hh rfl (wf_haz n2 t2 c1 c2) HHZ.out) ?_
      (try simp only [Act.put, List.setIfInBounds_toArray, List.set_cons_zero, List.set_cons_succ])
      iterate 3 (first | (refine seq_take (v := ?_) rfl ?_ ?_ ?_; rotate_left 1; rfl; (focus (intro wS hSw; have hk := below_rule hSw; go_simp; first | done | with_reducible rfl)); (try simp only [Act.put, List.setIfInBounds_toArray, List.set_cons_zero, List.set_cons_succ])) | (refine seq_skip rfl ?_ ?_; rfl; (try simp only [Act.put, List.setIfInBounds_toArray, List.set_cons_zero, List.set_cons_succ])))
      refine seq_done ?_
      go_wp2_with fail
      go_ret
      exact ⟨rfl, below_step HB3.out hHeld⟩
    · have hld0 := hld
      obtain ⟨rr, hld1, hld2⟩ := hld
      obtain rfl : b = true := hb.2 (.inl ⟨gop, hld0, gh⟩)
      clear hld0
      obtain ⟨r2, hr2x⟩ : ∃ z, rr / 8 % 8192 = z := ⟨_, rfl⟩
      have HR2 := Lib.hid hr2x
      rw [hr2x] at hld2
      obtain ⟨hh, hhe⟩ : ∃ z, f (2 * (N : Int) + e.who) = z := ⟨_, rfl⟩
      have HHZ := Lib.hid hhe
      rw [hhe] at gh
      have z0 : (e.op == 0) = true := by simp [gop]
      have z1 : (e.op == 1) = false := by simp [gop]
      have z2 : (e.op == 2) = false := by simp [gop]
      have z3 : (e.op == 3) = false := by simp [gop]
      have HLD := Lib.hid hld1
      have gg : (r2 == a2) = true := beq_iff_eq.2 hld2
      have g9 : (hh == j + 1) = true := beq_iff_eq.2 gh
      clear hb ha0 ha1 ha2 ha3 ha4 gop gh hld1 hld2 hr2x hhe
      go_wp2_with fail
      refine wp_region_seq ((0, true) :: (1, true) :: (2, true) :: (3, true) :: (4, true) :: (5, true) :: (6, true) :: (7, true) :: (8, true) :: (9, true) :: (10, true) :: (11, true) :: (12, true) :: (13, true) :: []) (by kernel_rfl) (by kernel_rfl) (by kernel_rfl) (by decide) (fun _ _ _ _ _ h => h) (fun hHeld => ?_)
      iterate 8 (first | (refine seq_take (v := ?_) rfl ?_ ?_ ?_; rotate_left 1; rfl; (focus (intro wS hSw; have hk := below_rule hSw; go_simp; first | done | with_reducible rfl)); (try simp only [Act.put, List.setIfInBounds_toArray, List.set_cons_zero, List.set_cons_succ])) | (refine seq_skip rfl ?_ ?_; rfl; (try simp only [Act.put, List.setIfInBounds_toArray, List.set_cons_zero, List.set_cons_succ])))
      refine seq_take (v := .tuple #[.int .i64 r2, .bool true]) rfl rfl (fun wS hSw => km_take_ok _ _ _ rfl (gens_ty N) rfl (HW2.out.gens.later hSw) (e.who, j) _ _ rfl HLO.out (by show genO (g e.who j) = _; rw [HLD.out]; exact HR2.out) (by show (g e.who j).isSome = _; rw [HLD.out]; rfl)) ?_
      (try simp only [Act.put, List.setIfInBounds_toArray, List.set_cons_zero, List.set_cons_succ])
      iterate 5 (first | (refine seq_take (v := ?_) rfl ?_ ?_ ?_; rotate_left 1; rfl; (focus (intro wS hSw; have hk := below_rule hSw; go_simp; first | done | with_reducible rfl)); (try simp only [Act.put, List.setIfInBounds_toArray, List.set_cons_zero, List.set_cons_succ])) | (refine seq_skip rfl ?_ ?_; rfl; (try simp only [Act.put, List.setIfInBounds_toArray, List.set_cons_zero, List.set_cons_succ])))
      refine seq_done ?_
      have HB3 := Lib.hid (below_step HB2.out hHeld)
      have HO3 := Lib.hid (HO2.out.later hHeld)
      have HW3 := Lib.hid (HW2.out.later hHeld)
      have HV3 := Lib.hid (HV.out.later hHeld)
      have HMC3 := Lib.hid (HMC.out.later hHeld)
      generalize wc.drew = w3 at HB3 HO3 HW3 HV3 HMC3 hHeld ⊢
      clear e0 e1 e2 e3 e4 e5 q0 q1 q2 q3 q4 q5 u0 u1 u2 u3 u4 hHeld
      obtain ⟨e0, e1, e2, e3, e4, e5⟩ : _ ∧ _ ∧ _ ∧ _ ∧ _ ∧ _ := ⟨HO3.out.at' 0 _ rfl, HO3.out.at' 1 _ rfl, HO3.out.at' 2 _ rfl, HO3.out.at' 3 _ rfl, HO3.out.at' 4 _ rfl, HO3.out.at' 5 _ rfl⟩
      obtain ⟨q0, q1, q2, q3, q4, q5⟩ : _ ∧ _ ∧ _ ∧ _ ∧ _ ∧ _ := ⟨HW3.out.obj.at' 0 _ rfl, HW3.out.obj.at' 1 _ rfl, HW3.out.obj.at' 2 _ rfl, HW3.out.obj.at' 3 _ rfl, HW3.out.obj.at' 4 _ rfl, HW3.out.obj.at' 5 _ rfl⟩
      obtain ⟨u0, u1, u2, u3, u4⟩ : _ ∧ _ ∧ _ ∧ _ ∧ _ := ⟨HV3.out.at' 0 _ rfl, HV3.out.at' 1 _ rfl, HV3.out.at' 2 _ rfl, HV3.out.at' 3 _ rfl, HV3.out.at' 4 _ rfl⟩
      go_wp2_with fail
      refine wp_region_seq ((0, true) :: (1, true) :: (2, true) :: (3, true) :: (4, true) :: (5, true) :: (6, true) :: (7, true) :: (8, true) :: (9, true) :: (10, true) :: (11, true) :: (12, true) :: (13, true) :: (14, true) :: (15, true) :: (16, true) :: (17, true) :: (20, true) :: (21, true) :: (22, true) :: (18, false) :: (19, true) :: (23, true) :: (24, true) :: (25, true) :: []) (by kernel_rfl) (by kernel_rfl) (by kernel_rfl) (by decide) (fun _ _ _ _ _ h => h) (fun hHeld => ?_)
      iterate 21 (first | (refine seq_take (v := ?_) rfl ?_ ?_ ?_; rotate_left 1; rfl; (focus (intro wS hSw; have hk := below_rule hSw; go_simp; first | done | with_reducible rfl)); (try simp only [Act.put, List.setIfInBounds_toArray, List.set_cons_zero, List.set_cons_succ])) | (refine seq_skip rfl ?_ ?_; rfl; (try simp only [Act.put, List.setIfInBounds_toArray, List.set_cons_zero, List.set_cons_succ])))
      refine seq_run rfl (fun K hK => ?_)
      go_simp
      go_at_call 62
      refine (chazard_any t s so d N e.who _ HLA.out c1 (by omega)).mono ?_
      rintro r w9 ⟨rfl, hb'⟩
      (try go_wp2_with fail)
      refine hK.out _ _ (below_step hHeld hb') ?_
      replace hHeld := below_step hHeld hb'
      clear hb' hK K
      intro _
      (try simp only [Act.put, List.setIfInBounds_toArray, List.set_cons_zero, List.set_cons_succ])
      refine seq_take (v := .int .u64 hh) rfl rfl (fun wS hSw => km_take _ _ _ rfl cells_ty rfl (HMC3.out.later hSw) (2 * N + e.who) hh rfl (wf_haz n2 t2 c1 c2) HHZ.out) ?_
      (try simp only [Act.put, List.setIfInBounds_toArray, List.set_cons_zero, List.set_cons_succ])
      iterate 3 (first | (refine seq_take (v := ?_) rfl ?_ ?_ ?_; rotate_left 1; rfl; (focus (intro wS hSw; have hk := below_rule hSw; go_simp; first | done | with_reducible rfl)); (try simp only [Act.put, List.setIfInBounds_toArray, List.set_cons_zero, List.set_cons_succ])) | (refine seq_skip rfl ?_ ?_; rfl; (try simp only [Act.put, List.setIfInBounds_toArray, List.set_cons_zero, List.set_cons_succ])))
      refine seq_done ?_
      go_wp2_with fail
      go_ret
      exact ⟨rfl, below_step HB3.out hHeld⟩
    · obtain rfl : b = false := by
        cases b with
        | false => rfl
        | true =>
          rcases hb.1 rfl with ⟨q, ⟨r, hr, hr2⟩, hr3⟩ | ⟨q, q2, q3⟩
          · omega
          · exact absurd q2 g1
      have z0 : (e.op == 0) = false := by simp [gop]
      have z1 : (e.op == 1) = true := by simp [gop]
      have z2 : (e.op == 2) = false := by simp [gop]
      have z3 : (e.op == 3) = false := by simp [gop]
      have ow : (e.who == j / s) = false := beq_false_of_ne g1
      clear hb ha0 ha1 ha2 ha3 ha4 gop g1
      go_wp2_with fail
      refine wp_region_seq ((0, true) :: (1, true) :: (2, true) :: (3, true) :: (4, true) :: (5, true) :: (6, true) :: (7, false) :: (8, true) :: (9, true) :: (10, true) :: (11, true) :: (12, true) :: (13, true) :: (14, true) :: []) (by kernel_rfl) (by kernel_rfl) (by kernel_rfl) (by decide) (fun _ _ _ _ _ h => h) (fun hHeld => ?_)
      iterate 7 (first | (refine seq_take (v := ?_) rfl ?_ ?_ ?_; rotate_left 1; rfl; (focus (intro wS hSw; have hk := below_rule hSw; go_simp; first | done | with_reducible rfl)); (try simp only [Act.put, List.setIfInBounds_toArray, List.set_cons_zero, List.set_cons_succ])) | (refine seq_skip rfl ?_ ?_; rfl; (try simp only [Act.put, List.setIfInBounds_toArray, List.set_cons_zero, List.set_cons_succ])))
      refine seq_run rfl (fun K hK => ?_)
      go_simp
      go_at_call 64
      refine (cowner_in t s so d N j _ HLA.out hj0 hj1).mono ?_
      rintro r w9 ⟨rfl, hb'⟩
      (try go_wp2_with fail)
      refine hK.out _ _ (below_step hHeld hb') ?_
      replace hHeld := below_step hHeld hb'
      clear hb' hK K
      intro _
      (try simp only [Act.put, List.setIfInBounds_toArray, List.set_cons_zero, List.set_cons_succ])
      iterate 7 (first | (refine seq_take (v := ?_) rfl ?_ ?_ ?_; rotate_left 1; rfl; (focus (intro wS hSw; have hk := below_rule hSw; go_simp; first | done | with_reducible rfl)); (try simp only [Act.put, List.setIfInBounds_toArray, List.set_cons_zero, List.set_cons_succ])) | (refine seq_skip rfl ?_ ?_; rfl; (try simp only [Act.put, List.setIfInBounds_toArray, List.set_cons_zero, List.set_cons_succ])))
      refine seq_done ?_
      go_wp2_with fail
      go_ret
      exact ⟨rfl, below_step HB2.out hHeld⟩
    · obtain rfl : b = false := by
        cases b with
        | false => rfl
        | true =>
          rcases hb.1 rfl with ⟨q, ⟨r, hr, hr2⟩, hr3⟩ | ⟨q, q2, q3⟩
          · omega
          · omega
      have z0 : (e.op == 0) = false := by simp [gop]
      have z1 : (e.op == 1) = true := by simp [gop]
      have z2 : (e.op == 2) = false := by simp [gop]
      have z3 : (e.op == 3) = false := by simp [gop]
      have ow : (e.who == j / s) = true := beq_iff_eq.2 g1
      have os : (a0 != 1) = false := by simp [g2]
      clear hb ha0 ha1 ha2 ha3 ha4 gop g1 g2
      go_wp2_with fail
      refine wp_region_seq ((0, true) :: (1, true) :: (2, true) :: (3, true) :: (4, true) :: (5, true) :: (6, true) :: (7, false) :: (8, true) :: (9, true) :: (10, true) :: (11, true) :: (12, true) :: (13, true) :: (14, true) :: []) (by kernel_rfl) (by kernel_rfl) (by kernel_rfl) (by decide) (fun _ _ _ _ _ h => h) (fun hHeld => ?_)
      iterate 7 (first | (refine seq_take (v := ?_) rfl ?_ ?_ ?_; rotate_left 1; rfl; (focus (intro wS hSw; have hk := below_rule hSw; go_simp; first | done | with_reducible rfl)); (try simp only [Act.put, List.setIfInBounds_toArray, List.set_cons_zero, List.set_cons_succ])) | (refine seq_skip rfl ?_ ?_; rfl; (try simp only [Act.put, List.setIfInBounds_toArray, List.set_cons_zero, List.set_cons_succ])))
      refine seq_run rfl (fun K hK => ?_)
      go_simp
      go_at_call 64
      refine (cowner_in t s so d N j _ HLA.out hj0 hj1).mono ?_
      rintro r w9 ⟨rfl, hb'⟩
      (try go_wp2_with fail)
      refine hK.out _ _ (below_step hHeld hb') ?_
      replace hHeld := below_step hHeld hb'
      clear hb' hK K
      intro _
      (try simp only [Act.put, List.setIfInBounds_toArray, List.set_cons_zero, List.set_cons_succ])
      iterate 7 (first | (refine seq_take (v := ?_) rfl ?_ ?_ ?_; rotate_left 1; rfl; (focus (intro wS hSw; have hk := below_rule hSw; go_simp; first | done | with_reducible rfl)); (try simp only [Act.put, List.setIfInBounds_toArray, List.set_cons_zero, List.set_cons_succ])) | (refine seq_skip rfl ?_ ?_; rfl; (try simp only [Act.put, List.setIfInBounds_toArray, List.set_cons_zero, List.set_cons_succ])))
      refine seq_done ?_
      go_wp2_with fail
      go_ret
      exact ⟨rfl, below_step HB2.out hHeld⟩
    · obtain rfl : b = true := hb.2 (.inr ⟨gop, g1, g2⟩)
      have z0 : (e.op == 0) = false := by simp [gop]
      have z1 : (e.op == 1) = true := by simp [gop]
      have z2 : (e.op == 2) = false := by simp [gop]
      have z3 : (e.op == 3) = false := by simp [gop]
      have ow : (e.who == j / s) = true := beq_iff_eq.2 g1
      have os : (a0 != 1) = true := bne_iff_ne.2 g2
      clear hb ha0 ha1 ha2 ha3 ha4 gop g1 g2
      go_wp2_with fail
      refine wp_region_seq ((0, true) :: (1, true) :: (2, true) :: (3, true) :: (4, true) :: (5, true) :: (6, true) :: (7, false) :: (8, true) :: (9, true) :: (10, true) :: (11, true) :: (12, true) :: (13, true) :: (14, true) :: []) (by kernel_rfl) (by kernel_rfl) (by kernel_rfl) (by decide) (fun _ _ _ _ _ h => h) (fun hHeld => ?_)
      iterate 7 (first | (refine seq_take (v := ?_) rfl ?_ ?_ ?_; rotate_left 1; rfl; (focus (intro wS hSw; have hk := below_rule hSw; go_simp; first | done | with_reducible rfl)); (try simp only [Act.put, List.setIfInBounds_toArray, List.set_cons_zero, List.set_cons_succ])) | (refine seq_skip rfl ?_ ?_; rfl; (try simp only [Act.put, List.setIfInBounds_toArray, List.set_cons_zero, List.set_cons_succ])))
      refine seq_run rfl (fun K hK => ?_)
      go_simp
      go_at_call 64
      refine (cowner_in t s so d N j _ HLA.out hj0 hj1).mono ?_
      rintro r w9 ⟨rfl, hb'⟩
      (try go_wp2_with fail)
      refine hK.out _ _ (below_step hHeld hb') ?_
      replace hHeld := below_step hHeld hb'
      clear hb' hK K
      intro _
      (try simp only [Act.put, List.setIfInBounds_toArray, List.set_cons_zero, List.set_cons_succ])
      iterate 7 (first | (refine seq_take (v := ?_) rfl ?_ ?_ ?_; rotate_left 1; rfl; (focus (intro wS hSw; have hk := below_rule hSw; go_simp; first | done | with_reducible rfl)); (try simp only [Act.put, List.setIfInBounds_toArray, List.set_cons_zero, List.set_cons_succ])) | (refine seq_skip rfl ?_ ?_; rfl; (try simp only [Act.put, List.setIfInBounds_toArray, List.set_cons_zero, List.set_cons_succ])))
      refine seq_done ?_
      go_wp2_with fail
      go_ret
      exact ⟨rfl, below_step HB2.out hHeld⟩
    · obtain rfl : b = false := by
        cases b with
        | false => rfl
        | true =>
          rcases hb.1 rfl with ⟨q, ⟨r, hr, hr2⟩, hr3⟩ | ⟨q, q2, q3⟩
          · omega
          · omega
      have z0 : (e.op == 0) = false := beq_false_of_ne gn0
      have z1 : (e.op == 1) = false := beq_false_of_ne gn1
      obtain ⟨zz2, z2⟩ : ∃ z, (e.op == 2) = z := ⟨_, rfl⟩
      obtain ⟨zz3, z3⟩ : ∃ z, (e.op == 3) = z := ⟨_, rfl⟩
      clear hb ha0 ha1 ha2 ha3 ha4 gn0 gn1
      go_wp2_with fail
      go_ret
      exact ⟨rfl, HB2.out⟩

end
end Go.Proofs.YtpbpkmmhdfahnaaGreat
