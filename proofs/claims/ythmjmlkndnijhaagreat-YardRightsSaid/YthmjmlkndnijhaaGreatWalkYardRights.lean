/-
  YardRights answers true for all inputs, and leaves all memory that was there as it was. No condition.
-/
import Derived.Test.YthmjmlkndnijhaaGreatYardHead
import Derived.Test.YthmjmlkndnijhaaGreatYardPlaces
namespace Go.Proofs.YthmjmlkndnijhaaGreat
open Go.RowKit
set_option linter.unusedVariables false

set_option maxHeartbeats 1000000 in
theorem nthread_any (k : Int) (w : World) : Calls Tryz.prog 39 #[.pointer none, i64 k] w fun r w' => r = .returned (.pointer none) ∧ w = w' := by
  go_enter Tryz.func39, Tryz.ntmps39
  go_wp2
  go_ret
  exact ⟨rfl, rfl⟩
set_option maxHeartbeats 1000000 in
theorem nbusy_any (k : Int) (w : World) : Calls Tryz.prog 20 #[.pointer none, i64 k] w fun r w' => r = .returned (.bool false) ∧ w = w' := by
  go_enter Tryz.func20, Tryz.ntmps20
  go_wp2_with fail
  refine (nthread_any _ _).mono ?_
  rintro r w' ⟨rfl, rfl⟩
  go_wp2
  go_ret
  exact ⟨rfl, rfl⟩
set_option maxHeartbeats 1000000 in
theorem nstep_any (k : Int) (w : World) : Calls Tryz.prog 19 #[.pointer none, i64 k] w fun r w' => r = .returned (.bool false) ∧ w = w' := by
  go_enter Tryz.func19, Tryz.ntmps19
  go_wp2_with fail
  refine (nbusy_any _ _).mono ?_
  rintro r w' ⟨rfl, rfl⟩
  go_wp2
  go_ret
  exact ⟨rfl, rfl⟩
set_option maxHeartbeats 1000000 in
theorem npass_any (k : Int) (w : World) : Calls Tryz.prog 18 #[.pointer none, i64 k] w fun r w' => r = .returned (.tuple #[]) ∧ w = w' := by
  go_enter Tryz.func18, Tryz.ntmps18
  go_wp2
  exact bodyPost_ret (v := .tuple #[]) (by simp [results, Tryz.results18, go_sem]) rfl ⟨rfl, rfl⟩
set_option maxHeartbeats 1000000 in
theorem ncall_any (k kd e x s : Int) (w : World) : Calls Tryz.prog 15 #[.pointer none, i64 k, callV kd e x s] w fun r w' => r = .returned (i64 1) ∧ Below w.heap.size w w' := by
  have HB0 := Lib.hid (below_new (Below.refl w.heap.size w) (.cells #[i64 kd, i64 e, u64 x, i64 s] 47))
  go_enter Tryz.func15, Tryz.ntmps15
  go_wp2_with fail
  refine (nthread_any _ _).mono ?_
  rintro r w' ⟨rfl, rfl⟩
  go_wp2
  go_ret
  exact ⟨rfl, HB0.out⟩

set_option maxHeartbeats 1000000 in
theorem ntold_Now (wb : Nat) (w : World) : Calls Tryz.prog 50 #[.pointer none, .func (.func 51) #[] #[.pointer (some ⟨wb, 0, none⟩)]] w fun r w' => r = .returned (i64 0) ∧ w = w' := by
  go_enter Tryz.func50, Tryz.ntmps50
  go_wp2
  go_ret
  exact ⟨rfl, rfl⟩
set_option maxHeartbeats 1000000 in
theorem nNow_any (w : World) : Calls Tryz.prog 23 #[.pointer none] w fun r w' => r = .returned (i64 0) ∧ Below w.heap.size w w' := by
  have HB0 := Lib.hid (below_new (Below.refl w.heap.size w) (.cells #[.pointer none] 28))
  go_enter Tryz.func23, Tryz.ntmps23
  go_wp2_with fail
  refine (ntold_Now _ _).mono ?_
  rintro r w' ⟨rfl, rfl⟩
  go_wp2
  go_ret
  exact ⟨rfl, HB0.out⟩

set_option maxHeartbeats 1000000 in
theorem ntold_Deeds (wb : Nat) (w : World) : Calls Tryz.prog 52 #[.pointer none, .func (.func 53) #[] #[.pointer (some ⟨wb, 0, none⟩)]] w fun r w' => r = .returned (.slice none 0 0) ∧ w = w' := by
  go_enter Tryz.func52, Tryz.ntmps52
  go_wp2
  go_ret
  exact ⟨rfl, rfl⟩
set_option maxHeartbeats 1000000 in
theorem nDeeds_any (w : World) : Calls Tryz.prog 24 #[.pointer none] w fun r w' => r = .returned (.slice none 0 0) ∧ Below w.heap.size w w' := by
  have HB0 := Lib.hid (below_new (Below.refl w.heap.size w) (.cells #[.pointer none] 28))
  go_enter Tryz.func24, Tryz.ntmps24
  go_wp2_with fail
  refine (ntold_Deeds _ _).mono ?_
  rintro r w' ⟨rfl, rfl⟩
  go_wp2
  go_ret
  exact ⟨rfl, HB0.out⟩

set_option maxHeartbeats 1000000 in
theorem ntold_Log (wb : Nat) (w : World) : Calls Tryz.prog 55 #[.pointer none, .func (.func 56) #[] #[.pointer (some ⟨wb, 0, none⟩)]] w fun r w' => r = .returned (.slice none 0 0) ∧ w = w' := by
  go_enter Tryz.func55, Tryz.ntmps55
  go_wp2
  go_ret
  exact ⟨rfl, rfl⟩
set_option maxHeartbeats 1000000 in
theorem nLog_any (w : World) : Calls Tryz.prog 26 #[.pointer none] w fun r w' => r = .returned (.slice none 0 0) ∧ Below w.heap.size w w' := by
  have HB0 := Lib.hid (below_new (Below.refl w.heap.size w) (.cells #[.pointer none] 28))
  go_enter Tryz.func26, Tryz.ntmps26
  go_wp2_with fail
  refine (ntold_Log _ _).mono ?_
  rintro r w' ⟨rfl, rfl⟩
  go_wp2
  go_ret
  exact ⟨rfl, HB0.out⟩

set_option maxHeartbeats 1000000 in
theorem ntold_Words (wb : Nat) (w : World) : Calls Tryz.prog 58 #[.pointer none, .func (.func 59) #[] #[.pointer (some ⟨wb, 0, none⟩)]] w fun r w' => r = .returned (.slice none 0 0) ∧ w = w' := by
  go_enter Tryz.func58, Tryz.ntmps58
  go_wp2
  go_ret
  exact ⟨rfl, rfl⟩
set_option maxHeartbeats 1000000 in
theorem nWords_any (w : World) : Calls Tryz.prog 28 #[.pointer none] w fun r w' => r = .returned (.slice none 0 0) ∧ Below w.heap.size w w' := by
  have HB0 := Lib.hid (below_new (Below.refl w.heap.size w) (.cells #[.pointer none] 28))
  go_enter Tryz.func28, Tryz.ntmps28
  go_wp2_with fail
  refine (ntold_Words _ _).mono ?_
  rintro r w' ⟨rfl, rfl⟩
  go_wp2
  go_ret
  exact ⟨rfl, HB0.out⟩

set_option maxHeartbeats 1000000 in
theorem ntold_Values (wb : Nat) (w : World) : Calls Tryz.prog 58 #[.pointer none, .func (.func 61) #[] #[.pointer (some ⟨wb, 0, none⟩)]] w fun r w' => r = .returned (.slice none 0 0) ∧ w = w' := by
  go_enter Tryz.func58, Tryz.ntmps58
  go_wp2
  go_ret
  exact ⟨rfl, rfl⟩
set_option maxHeartbeats 1000000 in
theorem nValues_any (w : World) : Calls Tryz.prog 29 #[.pointer none] w fun r w' => r = .returned (.slice none 0 0) ∧ Below w.heap.size w w' := by
  have HB0 := Lib.hid (below_new (Below.refl w.heap.size w) (.cells #[.pointer none] 28))
  go_enter Tryz.func29, Tryz.ntmps29
  go_wp2_with fail
  refine (ntold_Values _ _).mono ?_
  rintro r w' ⟨rfl, rfl⟩
  go_wp2
  go_ret
  exact ⟨rfl, HB0.out⟩

set_option maxHeartbeats 1000000 in
theorem ntold_Conf (wb : Nat) (w : World) : Calls Tryz.prog 37 #[.pointer none, .func (.func 38) #[] #[.pointer (some ⟨wb, 0, none⟩)]] w fun r w' => r = .returned (cf 0 0 0 0) ∧ Below w.heap.size w w' := by
  go_enter Tryz.func37, Tryz.ntmps37
  go_wp2
  exact bodyPost_ret (v := cf 0 0 0 0) (by simp [results, Tryz.results37, go_sem]) rfl ⟨rfl, below_new (below_new (Below.refl _ _) _) _⟩
set_option maxHeartbeats 1000000 in
theorem nConf_any (w : World) : Calls Tryz.prog 12 #[.pointer none] w fun r w' => r = .returned (cf 0 0 0 0) ∧ Below w.heap.size w w' := by
  have HB0 : Hid (Below w.heap.size w ((w.alloc (.cells #[.pointer none] 28)).alloc (.cells #[.int .i64 0, .int .i64 0, .int .i64 0, .int .i64 0] 26))) := Lib.hid (below_new (below_new (Below.refl w.heap.size w) _) _)
  have HC : Hid (IsObj ((w.alloc (.cells #[.pointer none] 28)).alloc (.cells #[.int .i64 0, .int .i64 0, .int .i64 0, .int .i64 0] 26)) (w.heap.size + 1) [i64 0, i64 0, i64 0, i64 0]) := Lib.hid (by have h := IsObj.made (w.alloc (.cells #[.pointer none] 28)) [i64 0, i64 0, i64 0, i64 0] 26; simp only [World.size_alloc] at h; exact h)
  go_enter Tryz.func12, Tryz.ntmps12
  go_wp2_with fail
  generalize ((w.alloc (.cells #[.pointer none] 28)).alloc (.cells #[.int .i64 0, .int .i64 0, .int .i64 0, .int .i64 0] 26)) = w0 at HC HB0 ⊢
  refine (ntold_Conf _ _).mono ?_
  rintro r w2 ⟨rfl, hb⟩
  have HB1 := Lib.hid (below_step HB0.out hb)
  have HO1 := Lib.hid (HC.out.later hb)
  clear hb
  have q0 := HO1.out.at' 0 _ rfl
  have q1 := HO1.out.at' 1 _ rfl
  have q2 := HO1.out.at' 2 _ rfl
  have q3 := HO1.out.at' 3 _ rfl
  have f0 := HO1.out.fz 0
  have f1 := HO1.out.fz 1
  have f2 := HO1.out.fz 2
  have f3 := HO1.out.fz 3
  go_wp2
  have HO5 := Lib.hid ((((HO1.out.set 0 (i64 0)).set 1 (i64 0)).set 2 (i64 0)).set 3 (i64 0))
  have HB5 : Below w.heap.size w ((((w2.setCell ⟨w.heap.size + 1, 0, none⟩ (i64 0)).setCell ⟨w.heap.size + 1, 1, none⟩ (i64 0)).setCell ⟨w.heap.size + 1, 2, none⟩ (i64 0)).setCell ⟨w.heap.size + 1, 3, none⟩ (i64 0)) := below_set (below_set (below_set (below_set HB1.out (by simp) _) (by simp) _) (by simp) _) (by simp) _
  generalize ((((w2.setCell ⟨w.heap.size + 1, 0, none⟩ (i64 0)).setCell ⟨w.heap.size + 1, 1, none⟩ (i64 0)).setCell ⟨w.heap.size + 1, 2, none⟩ (i64 0)).setCell ⟨w.heap.size + 1, 3, none⟩ (i64 0)) = w5 at HO5 HB5 ⊢
  have r0 := HO5.out.at' 0 _ rfl
  have r1 := HO5.out.at' 1 _ rfl
  have r2 := HO5.out.at' 2 _ rfl
  have r3 := HO5.out.at' 3 _ rfl
  exact bodyPost_ret (v := cf 0 0 0 0) (by simp [results, Tryz.results12, go_sem, r0, r1, r2, r3]) rfl ⟨rfl, HB5⟩
theorem atC_of {w : World} {b : Nat} {t s so d : Int} (h : IsObj w b [i64 t, i64 s, i64 so, i64 d]) : AtC w b t s so d := ⟨h.at' 0 _ rfl, h.at' 1 _ rfl, h.at' 2 _ rfl, h.at' 3 _ rfl⟩
theorem busy_new {W w : World} {l : List Thing} {B : YB} {Y : Yd} {J : Nat → Nat} {v vd : Value} {X : List Value} (h : YAt W w l B Y J v vd X) (k : Int) (hn : ∀ (q : Nat) (a : Wk × Nat), ¬ Y.ts[q]? = some (some a)) :
    Calls Tryz.prog 20 #[pt B.yb, i64 k] w fun r w' => r = .returned (.bool false) ∧ Below w.heap.size w w' := by
  by_cases hk : k < 0 ∨ B.t ≤ k
  · refine (busy_out h k hk).mono ?_
    rintro r w' ⟨rfl, rfl⟩
    exact ⟨rfl, Below.refl _ _⟩
  · have hT := h.hT
    have hl := h.tl
    obtain ⟨q, rfl⟩ : ∃ q : Nat, k = q := ⟨k.toNat, by omega⟩
    cases hq : Y.ts[q]? with
    | none =>
      rw [List.getElem?_eq_none_iff] at hq
      omega
    | some a =>
      cases a with
      | some a => exact (hn q a hq).elim
      | none =>
        refine (busy_in h q (by omega) _ hq).mono ?_
        rintro r w' ⟨rfl, rfl⟩
        exact ⟨rfl, Below.refl _ _⟩
set_option maxHeartbeats 4000000 in
theorem walk_YardRights (a0_0 : Int) (a0_1 : Int) (a0_2 : Int) (a0_3 : Int) (a1 : Int) (a2_0 : Int) (a2_1 : Int) (a2_2 : Bool) (a2_3 : Bool) (a2_4 : Int) (a2_5 : Int) (a2_6 : Int) (w : World) (w0_0 : (Lit.int .i64 a0_0).wf = true) (w0_1 : (Lit.int .i64 a0_1).wf = true) (w0_2 : (Lit.int .i64 a0_2).wf = true) (w0_3 : (Lit.int .i64 a0_3).wf = true) (w1 : (Lit.int .i64 a1).wf = true) (w2_0 : (Lit.int .i64 a2_0).wf = true) (w2_1 : (Lit.int .i64 a2_1).wf = true) (w2_4 : (Lit.int .u64 a2_4).wf = true) (w2_5 : (Lit.int .i64 a2_5).wf = true) (w2_6 : (Lit.int .i64 a2_6).wf = true) :
    Calls Tryz.prog 5 #[.agg #[.int .i64 a0_0, .int .i64 a0_1, .int .i64 a0_2, .int .i64 a0_3], .int .i64 a1, .agg #[.int .i64 a2_0, .int .i64 a2_1, .bool a2_2, .bool a2_3, .int .u64 a2_4, .int .i64 a2_5, .int .i64 a2_6]] w fun e w' => e = .returned (.bool true) ∧ Below w.heap.size w w' := by
  clear w0_0 w0_1 w0_2 w0_3 w1 w2_0 w2_1 w2_4 w2_5 w2_6
  have HO : Hid (IsObj ((w.alloc (.cells #[.int .i64 a0_0, .int .i64 a0_1, .int .i64 a0_2, .int .i64 a0_3] 26)).alloc (.cells #[.int .i64 a2_0, .int .i64 a2_1, .bool a2_2, .bool a2_3, .int .u64 a2_4, .int .i64 a2_5, .int .i64 a2_6] 41)) w.heap.size [i64 a0_0, i64 a0_1, i64 a0_2, i64 a0_3]) := Lib.hid ((IsObj.made w [i64 a0_0, i64 a0_1, i64 a0_2, i64 a0_3] 26).later (below_new (Below.refl _ _) _))
  have HM : Hid (IsObj ((w.alloc (.cells #[.int .i64 a0_0, .int .i64 a0_1, .int .i64 a0_2, .int .i64 a0_3] 26)).alloc (.cells #[.int .i64 a2_0, .int .i64 a2_1, .bool a2_2, .bool a2_3, .int .u64 a2_4, .int .i64 a2_5, .int .i64 a2_6] 41)) (w.heap.size + 1) [i64 a2_0, i64 a2_1, .bool a2_2, .bool a2_3, u64 a2_4, i64 a2_5, i64 a2_6]) := Lib.hid (by have h := IsObj.made (w.alloc (.cells #[.int .i64 a0_0, .int .i64 a0_1, .int .i64 a0_2, .int .i64 a0_3] 26)) [i64 a2_0, i64 a2_1, .bool a2_2, .bool a2_3, u64 a2_4, i64 a2_5, i64 a2_6] 41; simp only [World.size_alloc] at h; exact h)
  have HB0 : Hid (Below w.heap.size w ((w.alloc (.cells #[.int .i64 a0_0, .int .i64 a0_1, .int .i64 a0_2, .int .i64 a0_3] 26)).alloc (.cells #[.int .i64 a2_0, .int .i64 a2_1, .bool a2_2, .bool a2_3, .int .u64 a2_4, .int .i64 a2_5, .int .i64 a2_6] 41))) := Lib.hid (below_new (below_new (Below.refl _ _) _) _)
  by_cases hr : rightC a0_0 a0_1 a0_2 a0_3 = true
  · have hrr := of_decide_eq_true hr
    obtain ⟨t1, t2, s1, s2, o0, o1, d0, d1⟩ := hrr
    have HR := fun w => cright_any a0_0 a0_1 a0_2 a0_3 w
    rw [hr] at HR
    replace HR := Lib.hid HR
    clear hr
    obtain ⟨T, rfl⟩ : ∃ T : Nat, a0_0 = T := ⟨a0_0.toNat, by omega⟩
    obtain ⟨N, hN⟩ : ∃ N : Nat, (T : Int) * a0_1 = N := ⟨((T : Int) * a0_1).toNat, by have := Int.mul_nonneg (show (0 : Int) ≤ T by omega) (show 0 ≤ a0_1 by omega); omega⟩
    have hl : Lay T a0_1 N := hN ▸ Lay.mk' t1 t2 s1 s2
    have hn2 := hl.n2
    clear hN
    go_enter Tryz.func5, Tryz.ntmps5
    go_wp2_with fail
    generalize ((w.alloc (.cells #[.int .i64 (T : Int), .int .i64 a0_1, .int .i64 a0_2, .int .i64 a0_3] 26)).alloc (.cells #[.int .i64 a2_0, .int .i64 a2_1, .bool a2_2, .bool a2_3, .int .u64 a2_4, .int .i64 a2_5, .int .i64 a2_6] 41)) = w0 at HO HM HB0 ⊢
    refine (head13_any _).mono ?_
    rintro r w1 ⟨rfl, hb⟩
    have HB1 := Lib.hid (below_step HB0.out hb)
    replace HO := Lib.hid (HO.out.later hb)
    clear hb HM HB0
    have q0 := HO.out.at' 0 _ rfl
    have q1 := HO.out.at' 1 _ rfl
    have q2 := HO.out.at' 2 _ rfl
    have q3 := HO.out.at' 3 _ rfl
    go_wp2_with fail
    refine (ynew_yes (W := w1) T a0_1 a0_2 a0_3 N (Below.refl _ _) hl o0 o1 d0 d1).mono ?_
    rintro r w2 ⟨yb, tb, p, c, l, rfl, hl4, hY, hb, hyb⟩
    obtain ⟨v, vd, X, hA⟩ := hY
    have HA := Lib.hid hA
    replace HB1 := Lib.hid (below_step HB1.out hb)
    replace HO := Lib.hid (HO.out.later hb)
    clear hb q0 q1 q2 q3 hA hyb hl4
    have q0 := HO.out.at' 0 _ rfl
    have q1 := HO.out.at' 1 _ rfl
    have q2 := HO.out.at' 2 _ rfl
    have q3 := HO.out.at' 3 _ rfl
    go_wp2_with fail
    refine (HR.out _).mono ?_
    rintro r w3 ⟨rfl, hb⟩
    replace HB1 := Lib.hid (below_step HB1.out hb)
    replace HO := Lib.hid (HO.out.later hb)
    replace HA := Lib.hid (HA.out.later hb)
    clear hb q0 q1 q2 q3
    have q0 := HO.out.at' 0 _ rfl
    have q1 := HO.out.at' 1 _ rfl
    have q2 := HO.out.at' 2 _ rfl
    have q3 := HO.out.at' 3 _ rfl
    go_wp2_with fail
    refine (HR.out _).mono ?_
    rintro r w4 ⟨rfl, hb⟩
    replace HB1 := Lib.hid (below_step HB1.out hb)
    replace HO := Lib.hid (HO.out.later hb)
    replace HA := Lib.hid (HA.out.later hb)
    clear hb q0 q1 q2 q3
    go_wp2_with fail
    replace HB1 := Lib.hid (below_step HB1.out (Below.refl _ _).drew)
    replace HO := Lib.hid (HO.out.later (Below.refl _ _).drew)
    replace HA := Lib.hid (HA.out.later (Below.refl _ _).drew)
    refine wp_region_seqS ((fun w' => AtC w' w.heap.size T a0_1 a0_2 a0_3)) ((0, true) :: (1, true) :: (2, true) :: (3, true) :: (4, true) :: (5, true) :: (6, true) :: (7, true) :: (8, false) :: (9, true) :: (10, true) :: (11, true) :: (12, true) :: (13, false) :: (14, true) :: (15, true) :: (16, true) :: (17, true) :: (18, true) :: (19, false) :: (20, true) :: (21, true) :: (22, true) :: (23, true) :: (24, true) :: (27, true) :: (25, false) :: (26, true) :: (28, false) :: (29, true) :: (30, true) :: (31, true) :: (32, true) :: (33, true) :: (34, false) :: (35, true) :: (36, true) :: (37, true) :: []) (by kernel_rfl) (by kernel_rfl) (by kernel_rfl) (by decide) (fun _ _ _ _ _ h => h) ((atC_of HO.out)) ?_
    repeat (first | (refine seq_take (v := ?_) rfl ?_ ?_ ?_; rotate_left 1; rfl; (focus (intro wS hSw; obtain ⟨q0, q1, q2, q3⟩ := hSw; go_simp; first | done | with_reducible rfl)); (try simp only [Act.put, List.setIfInBounds_toArray, List.set_cons_zero, List.set_cons_succ])) | (refine seq_skip rfl ?_ ?_; rfl; (try simp only [Act.put, List.setIfInBounds_toArray, List.set_cons_zero, List.set_cons_succ])))
    refine seq_run rfl (fun K hK => ?_)
    go_simp
    go_at_call 23
    refine (ynow_any HA.out).mono ?_
    rintro r w5 ⟨rfl, hb⟩
    (try go_wp2_with fail)
    replace HB1 := Lib.hid (below_step HB1.out hb)
    replace HO := Lib.hid (HO.out.later hb)
    replace HA := Lib.hid (HA.out.later hb)
    clear hb
    refine hK.out _ _ ((atC_of HO.out)) (fun _ => ?_)
    (try simp only [Act.put, List.setIfInBounds_toArray, List.set_cons_zero, List.set_cons_succ])
    clear hK K
    repeat (first | (refine seq_take (v := ?_) rfl ?_ ?_ ?_; rotate_left 1; rfl; (focus (intro wS hSw; obtain ⟨q0, q1, q2, q3⟩ := hSw; go_simp; first | done | with_reducible rfl)); (try simp only [Act.put, List.setIfInBounds_toArray, List.set_cons_zero, List.set_cons_succ])) | (refine seq_skip rfl ?_ ?_; rfl; (try simp only [Act.put, List.setIfInBounds_toArray, List.set_cons_zero, List.set_cons_succ])))
    refine seq_run rfl (fun K hK => ?_)
    go_simp
    go_at_call 24
    refine (ydeeds_any HA.out (by show (0 : Nat) ≤ 1000000000; decide)).mono ?_
    rintro r w6 ⟨u6, rfl, hr6, hb⟩
    obtain ⟨A6, cap6, rfl⟩ := own_shape hr6
    (try go_wp2_with fail)
    replace HB1 := Lib.hid (below_step HB1.out hb)
    replace HO := Lib.hid (HO.out.later hb)
    replace HA := Lib.hid (HA.out.later hb)
    clear hb
    refine hK.out _ _ ((atC_of HO.out)) (fun _ => ?_)
    (try simp only [Act.put, List.setIfInBounds_toArray, List.set_cons_zero, List.set_cons_succ])
    clear hK K
    repeat (first | (refine seq_take (v := ?_) rfl ?_ ?_ ?_; rotate_left 1; rfl; (focus (intro wS hSw; obtain ⟨q0, q1, q2, q3⟩ := hSw; go_simp; first | done | with_reducible rfl)); (try simp only [Act.put, List.setIfInBounds_toArray, List.set_cons_zero, List.set_cons_succ])) | (refine seq_skip rfl ?_ ?_; rfl; (try simp only [Act.put, List.setIfInBounds_toArray, List.set_cons_zero, List.set_cons_succ])))
    refine seq_run rfl (fun K hK => ?_)
    go_simp
    go_at_call 26
    refine (ylog_any HA.out (by show (0 : Nat) ≤ 1000000000; decide)).mono ?_
    rintro r w7 ⟨u7, rfl, hr7, hb⟩
    obtain ⟨A7, cap7, rfl⟩ := own_shape hr7
    (try go_wp2_with fail)
    replace HB1 := Lib.hid (below_step HB1.out hb)
    replace HO := Lib.hid (HO.out.later hb)
    replace HA := Lib.hid (HA.out.later hb)
    clear hb
    refine hK.out _ _ ((atC_of HO.out)) (fun _ => ?_)
    (try simp only [Act.put, List.setIfInBounds_toArray, List.set_cons_zero, List.set_cons_succ])
    clear hK K
    repeat (first | (refine seq_take (v := ?_) rfl ?_ ?_ ?_; rotate_left 1; rfl; (focus (intro wS hSw; obtain ⟨q0, q1, q2, q3⟩ := hSw; go_simp; first | done | with_reducible rfl)); (try simp only [Act.put, List.setIfInBounds_toArray, List.set_cons_zero, List.set_cons_succ])) | (refine seq_skip rfl ?_ ?_; rfl; (try simp only [Act.put, List.setIfInBounds_toArray, List.set_cons_zero, List.set_cons_succ])))
    refine seq_run rfl (fun K hK => ?_)
    go_simp
    go_at_call 28
    refine (ywords_any (N := N) hl (by show 2 * N ≤ (List.replicate (2 * N + 2 * T) (0 : Int)).length; rw [List.length_replicate]; omega) trivial HA.out).mono ?_
    rintro r w8 ⟨u8, Xs, rfl, hr8, _, _, hb⟩
    obtain ⟨A8, cap8, rfl⟩ := own_shape hr8
    (try go_wp2_with fail)
    replace HB1 := Lib.hid (below_step HB1.out hb)
    replace HO := Lib.hid (HO.out.later hb)
    replace HA := Lib.hid (HA.out.later hb)
    clear hb
    refine hK.out _ _ ((atC_of HO.out)) (fun _ => ?_)
    (try simp only [Act.put, List.setIfInBounds_toArray, List.set_cons_zero, List.set_cons_succ])
    clear hK K
    repeat (first | (refine seq_take (v := ?_) rfl ?_ ?_ ?_; rotate_left 1; rfl; (focus (intro wS hSw; obtain ⟨q0, q1, q2, q3⟩ := hSw; go_simp; first | done | with_reducible rfl)); (try simp only [Act.put, List.setIfInBounds_toArray, List.set_cons_zero, List.set_cons_succ])) | (refine seq_skip rfl ?_ ?_; rfl; (try simp only [Act.put, List.setIfInBounds_toArray, List.set_cons_zero, List.set_cons_succ])))
    refine seq_run rfl (fun K hK => ?_)
    go_simp
    go_at_call 30
    refine (call_any T a0_1 a0_2 a0_3 N _ hl).mono ?_
    rintro r w9 ⟨rfl, hb⟩
    (try go_wp2_with fail)
    replace HB1 := Lib.hid (below_step HB1.out hb)
    replace HO := Lib.hid (HO.out.later hb)
    replace HA := Lib.hid (HA.out.later hb)
    clear hb
    refine hK.out _ _ ((atC_of HO.out)) (fun _ => ?_)
    (try simp only [Act.put, List.setIfInBounds_toArray, List.set_cons_zero, List.set_cons_succ])
    clear hK K
    repeat (first | (refine seq_take (v := ?_) rfl ?_ ?_ ?_; rotate_left 1; rfl; (focus (intro wS hSw; obtain ⟨q0, q1, q2, q3⟩ := hSw; go_simp; first | done | with_reducible rfl)); (try simp only [Act.put, List.setIfInBounds_toArray, List.set_cons_zero, List.set_cons_succ])) | (refine seq_skip rfl ?_ ?_; rfl; (try simp only [Act.put, List.setIfInBounds_toArray, List.set_cons_zero, List.set_cons_succ])))
    refine seq_run rfl (fun K hK => ?_)
    go_simp
    go_at_call 20
    refine (busy_new HA.out a1 (fun k a h => by
      have h' : (List.replicate T (none : Option (Wk × Nat)))[k]? = some (some a) := h
      rw [List.getElem?_replicate] at h'
      split at h' <;> cases h')).mono ?_
    rintro r w10 ⟨rfl, hb⟩
    (try go_wp2_with fail)
    replace HB1 := Lib.hid (below_step HB1.out hb)
    replace HO := Lib.hid (HO.out.later hb)
    replace HA := Lib.hid (HA.out.later hb)
    clear hb
    refine hK.out _ _ ((atC_of HO.out)) (fun _ => ?_)
    (try simp only [Act.put, List.setIfInBounds_toArray, List.set_cons_zero, List.set_cons_succ])
    clear hK K
    repeat (first | (refine seq_take (v := ?_) rfl ?_ ?_ ?_; rotate_left 1; rfl; (focus (intro wS hSw; obtain ⟨q0, q1, q2, q3⟩ := hSw; go_simp; first | done | with_reducible rfl)); (try simp only [Act.put, List.setIfInBounds_toArray, List.set_cons_zero, List.set_cons_succ])) | (refine seq_skip rfl ?_ ?_; rfl; (try simp only [Act.put, List.setIfInBounds_toArray, List.set_cons_zero, List.set_cons_succ])))
    refine seq_done ?_
    go_wp2
    go_ret
    exact ⟨rfl, HB1.out⟩
  · have HR := fun w => cright_any a0_0 a0_1 a0_2 a0_3 w
    have hr' : rightC a0_0 a0_1 a0_2 a0_3 = false := by simpa using hr
    have HNN := Lib.hid (fun w => ynew_no a0_0 a0_1 a0_2 a0_3 w hr')
    rw [hr'] at HR
    replace HR := Lib.hid HR
    clear hr hr'
    go_enter Tryz.func5, Tryz.ntmps5
    go_wp2_with fail
    generalize ((w.alloc (.cells #[.int .i64 a0_0, .int .i64 a0_1, .int .i64 a0_2, .int .i64 a0_3] 26)).alloc (.cells #[.int .i64 a2_0, .int .i64 a2_1, .bool a2_2, .bool a2_3, .int .u64 a2_4, .int .i64 a2_5, .int .i64 a2_6] 41)) = w0 at HO HM HB0 ⊢
    refine (head13_any _).mono ?_
    rintro r w1 ⟨rfl, hb⟩
    replace HB0 := Lib.hid (below_step HB0.out hb)
    replace HO := Lib.hid (HO.out.later hb)
    replace HM := Lib.hid (HM.out.later hb)
    clear hb
    have q0 := HO.out.at' 0 _ rfl
    have q1 := HO.out.at' 1 _ rfl
    have q2 := HO.out.at' 2 _ rfl
    have q3 := HO.out.at' 3 _ rfl
    go_wp2_with fail
    refine (HNN.out _).mono ?_
    rintro r w2 ⟨rfl, hb⟩
    clear q0 q1 q2 q3
    replace HB0 := Lib.hid (below_step HB0.out hb)
    replace HO := Lib.hid (HO.out.later hb)
    replace HM := Lib.hid (HM.out.later hb)
    clear hb
    have q0 := HO.out.at' 0 _ rfl
    have q1 := HO.out.at' 1 _ rfl
    have q2 := HO.out.at' 2 _ rfl
    have q3 := HO.out.at' 3 _ rfl
    go_wp2_with fail
    refine (HR.out _).mono ?_
    rintro r w3 ⟨rfl, hb⟩
    clear q0 q1 q2 q3
    replace HB0 := Lib.hid (below_step HB0.out hb)
    replace HO := Lib.hid (HO.out.later hb)
    replace HM := Lib.hid (HM.out.later hb)
    clear hb
    have q0 := HO.out.at' 0 _ rfl
    have q1 := HO.out.at' 1 _ rfl
    have q2 := HO.out.at' 2 _ rfl
    have q3 := HO.out.at' 3 _ rfl
    go_wp2_with fail
    refine (HR.out _).mono ?_
    rintro r w4 ⟨rfl, hb⟩
    clear q0 q1 q2 q3
    replace HB0 := Lib.hid (below_step HB0.out hb)
    replace HO := Lib.hid (HO.out.later hb)
    replace HM := Lib.hid (HM.out.later hb)
    clear hb
    have q0 := HO.out.at' 0 _ rfl
    have q1 := HO.out.at' 1 _ rfl
    have q2 := HO.out.at' 2 _ rfl
    have q3 := HO.out.at' 3 _ rfl
    go_wp2_with fail
    refine (npass_any _ _).mono ?_
    rintro r w5 ⟨rfl, rfl⟩
    have m0 := HM.out.at' 0 _ rfl
    have m1 := HM.out.at' 1 _ rfl
    have m2 := HM.out.at' 2 _ rfl
    have m3 := HM.out.at' 3 _ rfl
    have m4 := HM.out.at' 4 _ rfl
    have m5 := HM.out.at' 5 _ rfl
    have m6 := HM.out.at' 6 _ rfl
    go_wp2_with fail
    refine (mvcall_any ⟨a2_0, a2_1, a2_2, a2_3, a2_4, a2_5, a2_6⟩ _ _ _ rfl rfl).mono ?_
    rintro r w6 ⟨rfl, hb⟩
    replace HB0 := Lib.hid (below_step HB0.out hb)
    clear hb q0 q1 q2 q3 m0 m1 m2 m3 m4 m5 m6
    go_wp2_with fail
    refine (ncall_any _ _ _ _ _ _).mono ?_
    rintro r w7 ⟨rfl, hb⟩
    replace HB0 := Lib.hid (below_step HB0.out hb)
    clear hb
    go_wp2_with fail
    refine (nstep_any _ _).mono ?_
    rintro r w8 ⟨rfl, rfl⟩
    go_wp2_with fail
    refine (nbusy_any _ _).mono ?_
    rintro r w8 ⟨rfl, rfl⟩
    go_wp2_with fail
    refine (nNow_any _).mono ?_
    rintro r w20 ⟨rfl, hb⟩
    replace HB0 := Lib.hid (below_step HB0.out hb)
    clear hb
    go_wp2_with fail
    refine (nDeeds_any _).mono ?_
    rintro r w21 ⟨rfl, hb⟩
    replace HB0 := Lib.hid (below_step HB0.out hb)
    clear hb
    go_wp2_with fail
    refine (nLog_any _).mono ?_
    rintro r w22 ⟨rfl, hb⟩
    replace HB0 := Lib.hid (below_step HB0.out hb)
    clear hb
    go_wp2_with fail
    refine (nWords_any _).mono ?_
    rintro r w23 ⟨rfl, hb⟩
    replace HB0 := Lib.hid (below_step HB0.out hb)
    clear hb
    go_wp2_with fail
    refine (nValues_any _).mono ?_
    rintro r w24 ⟨rfl, hb⟩
    replace HB0 := Lib.hid (below_step HB0.out hb)
    clear hb
    go_wp2_with fail
    refine (nConf_any _).mono ?_
    rintro r w25 ⟨rfl, hb⟩
    replace HB0 := Lib.hid (below_step HB0.out hb)
    clear hb
    go_wp2
    go_ret
    exact ⟨rfl, HB0.out⟩

end Go.Proofs.YthmjmlkndnijhaaGreat
