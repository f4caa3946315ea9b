/-
  The contracts of package audit's watch: whether an event may be. No condition but that numbers fit their kinds.
-/
import Derived.Test.YtpbpkmmhdfahnaaGreatWatch
import Derived.Test.YtpbpkmmhdfahnaaGreatEvRow
import Derived.Test.YtpbpkmmhdfahnaaGreatAudN
import Derived.Test.YtpbpkmmhdfahnaaGreatAudW
import Derived.Test.YtpbpkmmhdfahnaaGreatAudV
namespace Go.Proofs.YtpbpkmmhdfahnaaGreat
open Go.RowKit
set_option linter.unusedVariables false

section
variable {w : World} {wb bc bg : Nat} {t s so d : Int} {N n : Nat} {f : Int → Int} {g : Int → Int → Option Int} {e : Ev}
set_option maxRecDepth 100000 in
set_option maxHeartbeats 4000000 in
theorem amay_out1 (h : WAt w wb bc bg t s so d N n f g) (hf : e.Fit) (c1 : e.who < 0) :
    Calls Tryz.prog 20 #[pt wb, e.v] w fun r w' => r = .returned (.bool false) ∧ Below w.heap.size w w' := by
  have hlay := h.lay
  have HLA := Lib.hid hlay
  have n1 := hlay.n1
  have n2 := hlay.n2
  have t1 := hlay.t1
  have t2 := hlay.t2
  have s1 := hlay.s1
  have s2 := hlay.s2
  have hb0 := below_new (Below.refl w.heap.size w) (e.obj 40)
  have HB0 := Lib.hid hb0
  have HO : Hid (IsObj (w.alloc (e.obj 40)) w.heap.size [i64 e.who, i64 e.op, i64 e.cell, u64 e.old, u64 e.new, .bool e.ok]) := Lib.hid (IsObj.made w [i64 e.who, i64 e.op, i64 e.cell, u64 e.old, u64 e.new, .bool e.ok] 40)
  have HW := Lib.hid (h.later hb0)
  have HFE := Lib.hid hf
  have hwb0 := (h.later hb0).obj.lt
  obtain ⟨x, hx⟩ : ∃ x, f e.cell = x := ⟨_, rfl⟩
  have HX := Lib.hid hx
  have p1 : decide (e.who < 0) = true := decide_eq_true c1
  have HFC := Lib.hid hf.c
  clear h hb0 hf hlay hx
  go_enter Tryz.func20, Tryz.ntmps20

  go_wp2_with fail
  generalize w.alloc (e.obj 40) = w1 at HO HW HB0 ⊢
  generalize w.heap.size = eb at HO ⊢
  obtain ⟨e0, e1, e2, e3, e4, e5⟩ : _ ∧ _ ∧ _ ∧ _ ∧ _ ∧ _ := ⟨HO.out.at' 0 _ rfl, HO.out.at' 1 _ rfl, HO.out.at' 2 _ rfl, HO.out.at' 3 _ rfl, HO.out.at' 4 _ rfl, HO.out.at' 5 _ rfl⟩
  obtain ⟨q0, q1, q2, q3, q4, q5⟩ : _ ∧ _ ∧ _ ∧ _ ∧ _ ∧ _ := ⟨HW.out.obj.at' 0 _ rfl, HW.out.obj.at' 1 _ rfl, HW.out.obj.at' 2 _ rfl, HW.out.obj.at' 3 _ rfl, HW.out.obj.at' 4 _ rfl, HW.out.obj.at' 5 _ rfl⟩
  obtain ⟨MC, hmc⟩ := HW.out.cells
  have HMC := Lib.hid hmc
  clear hmc
  refine wp_region_seq ((0, true) :: (1, true) :: (2, true) :: (3, true) :: (4, true) :: (5, true) :: (6, true) :: (7, true) :: (8, true) :: (9, true) :: (10, true) :: (11, true) :: (12, true) :: (13, true) :: (14, true) :: (15, true) :: (16, true) :: (17, true) :: (18, true) :: (19, true) :: (20, true) :: (21, true) :: (22, true) :: (23, true) :: (24, true) :: []) (by kernel_rfl) (by kernel_rfl) (by kernel_rfl) (by decide) (fun _ _ _ _ _ h => h) (fun hHeld => ?_)
  iterate 22 (first | (refine seq_take (v := ?_) rfl ?_ ?_ ?_; rotate_left 1; rfl; (focus (intro wS hSw; have hk := below_rule hSw; go_simp; first | done | with_reducible rfl)); (try simp only [Act.put, List.setIfInBounds_toArray, List.set_cons_zero, List.set_cons_succ])) | (refine seq_skip rfl ?_ ?_; rfl; (try simp only [Act.put, List.setIfInBounds_toArray, List.set_cons_zero, List.set_cons_succ])))
  iterate 1 (first | (refine seq_take (v := ?_) rfl ?_ ?_ ?_; rotate_left 1; rfl; (focus (intro wS hSw; have hk := below_rule hSw; go_simp; first | done | with_reducible rfl)); (try simp only [Act.put, List.setIfInBounds_toArray, List.set_cons_zero, List.set_cons_succ])) | (refine seq_skip rfl ?_ ?_; rfl; (try simp only [Act.put, List.setIfInBounds_toArray, List.set_cons_zero, List.set_cons_succ])))
  iterate 2 (first | (refine seq_take (v := ?_) rfl ?_ ?_ ?_; rotate_left 1; rfl; (focus (intro wS hSw; have hk := below_rule hSw; go_simp; first | done | with_reducible rfl)); (try simp only [Act.put, List.setIfInBounds_toArray, List.set_cons_zero, List.set_cons_succ])) | (refine seq_skip rfl ?_ ?_; rfl; (try simp only [Act.put, List.setIfInBounds_toArray, List.set_cons_zero, List.set_cons_succ])))
  refine seq_done ?_
  go_wp2_with fail
  go_ret
  exact ⟨rfl, below_step HB0.out hHeld⟩
set_option maxRecDepth 100000 in
set_option maxHeartbeats 4000000 in
theorem amay_out2 (h : WAt w wb bc bg t s so d N n f g) (hf : e.Fit) (c1 : 0 ≤ e.who) (c2 : t ≤ e.who) :
    Calls Tryz.prog 20 #[pt wb, e.v] w fun r w' => r = .returned (.bool false) ∧ Below w.heap.size w w' := by
  have hlay := h.lay
  have HLA := Lib.hid hlay
  have n1 := hlay.n1
  have n2 := hlay.n2
  have t1 := hlay.t1
  have t2 := hlay.t2
  have s1 := hlay.s1
  have s2 := hlay.s2
  have hb0 := below_new (Below.refl w.heap.size w) (e.obj 40)
  have HB0 := Lib.hid hb0
  have HO : Hid (IsObj (w.alloc (e.obj 40)) w.heap.size [i64 e.who, i64 e.op, i64 e.cell, u64 e.old, u64 e.new, .bool e.ok]) := Lib.hid (IsObj.made w [i64 e.who, i64 e.op, i64 e.cell, u64 e.old, u64 e.new, .bool e.ok] 40)
  have HW := Lib.hid (h.later hb0)
  have HFE := Lib.hid hf
  have hwb0 := (h.later hb0).obj.lt
  obtain ⟨x, hx⟩ : ∃ x, f e.cell = x := ⟨_, rfl⟩
  have HX := Lib.hid hx
  have p1 : ¬ e.who < 0 := by omega
  have p1x : decide (e.who < 0) = false := decide_eq_false p1
  have p2 : decide (t ≤ e.who) = true := decide_eq_true c2
  have HFC := Lib.hid hf.c
  clear h hb0 hf hlay hx
  go_enter Tryz.func20, Tryz.ntmps20

  go_wp2_with fail
  generalize w.alloc (e.obj 40) = w1 at HO HW HB0 ⊢
  generalize w.heap.size = eb at HO ⊢
  obtain ⟨e0, e1, e2, e3, e4, e5⟩ : _ ∧ _ ∧ _ ∧ _ ∧ _ ∧ _ := ⟨HO.out.at' 0 _ rfl, HO.out.at' 1 _ rfl, HO.out.at' 2 _ rfl, HO.out.at' 3 _ rfl, HO.out.at' 4 _ rfl, HO.out.at' 5 _ rfl⟩
  obtain ⟨q0, q1, q2, q3, q4, q5⟩ : _ ∧ _ ∧ _ ∧ _ ∧ _ ∧ _ := ⟨HW.out.obj.at' 0 _ rfl, HW.out.obj.at' 1 _ rfl, HW.out.obj.at' 2 _ rfl, HW.out.obj.at' 3 _ rfl, HW.out.obj.at' 4 _ rfl, HW.out.obj.at' 5 _ rfl⟩
  obtain ⟨MC, hmc⟩ := HW.out.cells
  have HMC := Lib.hid hmc
  clear hmc
  refine wp_region_seq ((0, true) :: (1, true) :: (2, true) :: (3, true) :: (4, true) :: (5, true) :: (6, true) :: (7, true) :: (8, true) :: (9, true) :: (10, true) :: (11, true) :: (12, true) :: (13, true) :: (14, true) :: (15, true) :: (16, true) :: (17, true) :: (18, true) :: (19, true) :: (20, true) :: (21, true) :: (22, true) :: (23, true) :: (24, true) :: []) (by kernel_rfl) (by kernel_rfl) (by kernel_rfl) (by decide) (fun _ _ _ _ _ h => h) (fun hHeld => ?_)
  iterate 22 (first | (refine seq_take (v := ?_) rfl ?_ ?_ ?_; rotate_left 1; rfl; (focus (intro wS hSw; have hk := below_rule hSw; go_simp; first | done | with_reducible rfl)); (try simp only [Act.put, List.setIfInBounds_toArray, List.set_cons_zero, List.set_cons_succ])) | (refine seq_skip rfl ?_ ?_; rfl; (try simp only [Act.put, List.setIfInBounds_toArray, List.set_cons_zero, List.set_cons_succ])))
  iterate 1 (first | (refine seq_take (v := ?_) rfl ?_ ?_ ?_; rotate_left 1; rfl; (focus (intro wS hSw; have hk := below_rule hSw; go_simp; first | done | with_reducible rfl)); (try simp only [Act.put, List.setIfInBounds_toArray, List.set_cons_zero, List.set_cons_succ])) | (refine seq_skip rfl ?_ ?_; rfl; (try simp only [Act.put, List.setIfInBounds_toArray, List.set_cons_zero, List.set_cons_succ])))
  iterate 2 (first | (refine seq_take (v := ?_) rfl ?_ ?_ ?_; rotate_left 1; rfl; (focus (intro wS hSw; have hk := below_rule hSw; go_simp; first | done | with_reducible rfl)); (try simp only [Act.put, List.setIfInBounds_toArray, List.set_cons_zero, List.set_cons_succ])) | (refine seq_skip rfl ?_ ?_; rfl; (try simp only [Act.put, List.setIfInBounds_toArray, List.set_cons_zero, List.set_cons_succ])))
  refine seq_done ?_
  go_wp2_with fail
  go_ret
  exact ⟨rfl, below_step HB0.out hHeld⟩
set_option maxRecDepth 100000 in
set_option maxHeartbeats 4000000 in
theorem amay_out3 (h : WAt w wb bc bg t s so d N n f g) (hf : e.Fit) (c1 : 0 ≤ e.who) (c2 : e.who < t) (c5 : e.old ≠ f e.cell) :
    Calls Tryz.prog 20 #[pt wb, e.v] w fun r w' => r = .returned (.bool false) ∧ Below w.heap.size w w' := by
  have hlay := h.lay
  have HLA := Lib.hid hlay
  have n1 := hlay.n1
  have n2 := hlay.n2
  have t1 := hlay.t1
  have t2 := hlay.t2
  have s1 := hlay.s1
  have s2 := hlay.s2
  have hb0 := below_new (Below.refl w.heap.size w) (e.obj 40)
  have HB0 := Lib.hid hb0
  have HO : Hid (IsObj (w.alloc (e.obj 40)) w.heap.size [i64 e.who, i64 e.op, i64 e.cell, u64 e.old, u64 e.new, .bool e.ok]) := Lib.hid (IsObj.made w [i64 e.who, i64 e.op, i64 e.cell, u64 e.old, u64 e.new, .bool e.ok] 40)
  have HW := Lib.hid (h.later hb0)
  have HFE := Lib.hid hf
  have hwb0 := (h.later hb0).obj.lt
  obtain ⟨x, hx⟩ : ∃ x, f e.cell = x := ⟨_, rfl⟩
  have HX := Lib.hid hx
  have p1 : ¬ e.who < 0 := by omega
  have p1x : decide (e.who < 0) = false := decide_eq_false p1
  have p2 : ¬ t ≤ e.who := by omega
  have p2x : decide (t ≤ e.who) = false := decide_eq_false p2
  have xn : (e.old != x) = true := bne_iff_ne.2 (by rw [hx] at c5; exact c5)
  clear c5
  have HFC := Lib.hid hf.c
  clear h hb0 hf hlay hx
  go_enter Tryz.func20, Tryz.ntmps20

  go_wp2_with fail
  generalize w.alloc (e.obj 40) = w1 at HO HW HB0 ⊢
  generalize w.heap.size = eb at HO ⊢
  obtain ⟨e0, e1, e2, e3, e4, e5⟩ : _ ∧ _ ∧ _ ∧ _ ∧ _ ∧ _ := ⟨HO.out.at' 0 _ rfl, HO.out.at' 1 _ rfl, HO.out.at' 2 _ rfl, HO.out.at' 3 _ rfl, HO.out.at' 4 _ rfl, HO.out.at' 5 _ rfl⟩
  obtain ⟨q0, q1, q2, q3, q4, q5⟩ : _ ∧ _ ∧ _ ∧ _ ∧ _ ∧ _ := ⟨HW.out.obj.at' 0 _ rfl, HW.out.obj.at' 1 _ rfl, HW.out.obj.at' 2 _ rfl, HW.out.obj.at' 3 _ rfl, HW.out.obj.at' 4 _ rfl, HW.out.obj.at' 5 _ rfl⟩
  obtain ⟨MC, hmc⟩ := HW.out.cells
  have HMC := Lib.hid hmc
  clear hmc
  refine wp_region_seq ((0, true) :: (1, true) :: (2, true) :: (3, true) :: (4, true) :: (5, true) :: (6, true) :: (7, true) :: (8, true) :: (9, true) :: (10, true) :: (11, true) :: (12, true) :: (13, true) :: (14, true) :: (15, true) :: (16, true) :: (17, true) :: (18, true) :: (19, true) :: (20, true) :: (21, true) :: (22, true) :: (23, true) :: (24, true) :: []) (by kernel_rfl) (by kernel_rfl) (by kernel_rfl) (by decide) (fun _ _ _ _ _ h => h) (fun hHeld => ?_)
  iterate 22 (first | (refine seq_take (v := ?_) rfl ?_ ?_ ?_; rotate_left 1; rfl; (focus (intro wS hSw; have hk := below_rule hSw; go_simp; first | done | with_reducible rfl)); (try simp only [Act.put, List.setIfInBounds_toArray, List.set_cons_zero, List.set_cons_succ])) | (refine seq_skip rfl ?_ ?_; rfl; (try simp only [Act.put, List.setIfInBounds_toArray, List.set_cons_zero, List.set_cons_succ])))
  refine seq_take (v := .int .u64 x) rfl rfl (fun wS hSw => km_take _ _ _ rfl cells_ty rfl (HMC.out.later hSw) e.cell x rfl HFC.out HX.out) ?_
  (try simp only [Act.put, List.setIfInBounds_toArray, List.set_cons_zero, List.set_cons_succ])
  iterate 2 (first | (refine seq_take (v := ?_) rfl ?_ ?_ ?_; rotate_left 1; rfl; (focus (intro wS hSw; have hk := below_rule hSw; go_simp; first | done | with_reducible rfl)); (try simp only [Act.put, List.setIfInBounds_toArray, List.set_cons_zero, List.set_cons_succ])) | (refine seq_skip rfl ?_ ?_; rfl; (try simp only [Act.put, List.setIfInBounds_toArray, List.set_cons_zero, List.set_cons_succ])))
  refine seq_done ?_
  go_wp2_with fail
  go_ret
  exact ⟨rfl, below_step HB0.out hHeld⟩
set_option maxRecDepth 100000 in
set_option maxHeartbeats 4000000 in
theorem amay_in (h : WAt w wb bc bg t s so d N n f g) (hf : e.Fit) (c1 : 0 ≤ e.who) (c2 : e.who < t) (c5 : e.old = f e.cell) (bo : Bool) (hb : bo = true ↔ MayF t s so N f g e) :
    Calls Tryz.prog 20 #[pt wb, e.v] w fun r w' => r = .returned (.bool bo) ∧ Below w.heap.size w w' := by
  unfold MayF at hb
  have HBB := Lib.hid hb
  have C5 := Lib.hid c5
  clear hb
  have hlay := h.lay
  have HLA := Lib.hid hlay
  have n1 := hlay.n1
  have n2 := hlay.n2
  have t1 := hlay.t1
  have t2 := hlay.t2
  have s1 := hlay.s1
  have s2 := hlay.s2
  have hb0 := below_new (Below.refl w.heap.size w) (e.obj 40)
  have HB0 := Lib.hid hb0
  have HO : Hid (IsObj (w.alloc (e.obj 40)) w.heap.size [i64 e.who, i64 e.op, i64 e.cell, u64 e.old, u64 e.new, .bool e.ok]) := Lib.hid (IsObj.made w [i64 e.who, i64 e.op, i64 e.cell, u64 e.old, u64 e.new, .bool e.ok] 40)
  have HW := Lib.hid (h.later hb0)
  have HFE := Lib.hid hf
  have hwb0 := (h.later hb0).obj.lt
  obtain ⟨x, hx⟩ : ∃ x, f e.cell = x := ⟨_, rfl⟩
  have HX := Lib.hid hx
  have p1 : ¬ e.who < 0 := by omega
  have p1x : decide (e.who < 0) = false := decide_eq_false p1
  have p2 : ¬ t ≤ e.who := by omega
  have p2x : decide (t ≤ e.who) = false := decide_eq_false p2
  have xn : (e.old != x) = false := by simp [← hx, c5]
  clear c5
  have HFC := Lib.hid hf.c
  clear h hb0 hf hlay hx
  go_enter Tryz.func20, Tryz.ntmps20

  go_wp2_with fail
  generalize w.alloc (e.obj 40) = w1 at HO HW HB0 ⊢
  generalize w.heap.size = eb at HO ⊢
  obtain ⟨e0, e1, e2, e3, e4, e5⟩ : _ ∧ _ ∧ _ ∧ _ ∧ _ ∧ _ := ⟨HO.out.at' 0 _ rfl, HO.out.at' 1 _ rfl, HO.out.at' 2 _ rfl, HO.out.at' 3 _ rfl, HO.out.at' 4 _ rfl, HO.out.at' 5 _ rfl⟩
  obtain ⟨q0, q1, q2, q3, q4, q5⟩ : _ ∧ _ ∧ _ ∧ _ ∧ _ ∧ _ := ⟨HW.out.obj.at' 0 _ rfl, HW.out.obj.at' 1 _ rfl, HW.out.obj.at' 2 _ rfl, HW.out.obj.at' 3 _ rfl, HW.out.obj.at' 4 _ rfl, HW.out.obj.at' 5 _ rfl⟩
  obtain ⟨MC, hmc⟩ := HW.out.cells
  have HMC := Lib.hid hmc
  clear hmc
  refine wp_region_seq ((0, true) :: (1, true) :: (2, true) :: (3, true) :: (4, true) :: (5, true) :: (6, true) :: (7, true) :: (8, true) :: (9, true) :: (10, true) :: (11, true) :: (12, true) :: (13, true) :: (14, true) :: (15, true) :: (16, true) :: (17, true) :: (18, true) :: (19, true) :: (20, true) :: (21, true) :: (22, true) :: (23, true) :: (24, true) :: []) (by kernel_rfl) (by kernel_rfl) (by kernel_rfl) (by decide) (fun _ _ _ _ _ h => h) (fun hHeld => ?_)
  iterate 22 (first | (refine seq_take (v := ?_) rfl ?_ ?_ ?_; rotate_left 1; rfl; (focus (intro wS hSw; have hk := below_rule hSw; go_simp; first | done | with_reducible rfl)); (try simp only [Act.put, List.setIfInBounds_toArray, List.set_cons_zero, List.set_cons_succ])) | (refine seq_skip rfl ?_ ?_; rfl; (try simp only [Act.put, List.setIfInBounds_toArray, List.set_cons_zero, List.set_cons_succ])))
  refine seq_take (v := .int .u64 x) rfl rfl (fun wS hSw => km_take _ _ _ rfl cells_ty rfl (HMC.out.later hSw) e.cell x rfl HFC.out HX.out) ?_
  (try simp only [Act.put, List.setIfInBounds_toArray, List.set_cons_zero, List.set_cons_succ])
  iterate 2 (first | (refine seq_take (v := ?_) rfl ?_ ?_ ?_; rotate_left 1; rfl; (focus (intro wS hSw; have hk := below_rule hSw; go_simp; first | done | with_reducible rfl)); (try simp only [Act.put, List.setIfInBounds_toArray, List.set_cons_zero, List.set_cons_succ])) | (refine seq_skip rfl ?_ ?_; rfl; (try simp only [Act.put, List.setIfInBounds_toArray, List.set_cons_zero, List.set_cons_succ])))
  refine seq_done ?_
  have hb := HBB.out
  rcases (show (e.cell < 0 ∨ 2 * N + 2 * t ≤ e.cell) ∨ (0 ≤ e.cell ∧ e.cell < N) ∨ (0 ≤ e.cell ∧ N ≤ e.cell ∧ e.cell < 2 * N) ∨ (0 ≤ e.cell ∧ 2 * N + t ≤ e.cell ∧ e.cell < 2 * N + 2 * t) ∨ (0 ≤ e.cell ∧ 2 * N ≤ e.cell ∧ e.cell < 2 * N + t) from by omega) with c3 | ⟨c3, c6⟩ | ⟨c3, c6, c7⟩ | ⟨c3, c6, c7⟩ | ⟨c3, c6, c7⟩
  · obtain rfl : bo = false := by
      cases bo with
      | false => rfl
      | true =>
        obtain ⟨_, _, i3, i4, _⟩ := hb.1 rfl
        omega
    clear hb
    have HK : Hid (KindC t N e.cell 0 (0)) := .inl ⟨c3, rfl, rfl⟩
    have HB2 := Lib.hid (below_step HB0.out hHeld)
    have HO2 := Lib.hid (HO.out.later hHeld)
    have HW2 := Lib.hid (HW.out.later hHeld)
    generalize w1.drew = w2 at HB2 HO2 HW2 hHeld ⊢
    clear hHeld e0 e1 e2 e3 e4 e5 q0 q1 q2 q3 q4 q5 HMC
    obtain ⟨e0, e1, e2, e3, e4, e5⟩ : _ ∧ _ ∧ _ ∧ _ ∧ _ ∧ _ := ⟨HO2.out.at' 0 _ rfl, HO2.out.at' 1 _ rfl, HO2.out.at' 2 _ rfl, HO2.out.at' 3 _ rfl, HO2.out.at' 4 _ rfl, HO2.out.at' 5 _ rfl⟩
    obtain ⟨q0, q1, q2, q3, q4, q5⟩ : _ ∧ _ ∧ _ ∧ _ ∧ _ ∧ _ := ⟨HW2.out.obj.at' 0 _ rfl, HW2.out.obj.at' 1 _ rfl, HW2.out.obj.at' 2 _ rfl, HW2.out.obj.at' 3 _ rfl, HW2.out.obj.at' 4 _ rfl, HW2.out.obj.at' 5 _ rfl⟩
    go_wp2_with fail
    refine wp_region_seq ((0, true) :: (1, true) :: (2, true) :: (3, true) :: (4, true) :: (5, true) :: (6, false) :: (7, true) :: (8, true) :: (9, true) :: (10, true) :: (11, true) :: []) (by kernel_rfl) (by kernel_rfl) (by kernel_rfl) (by decide) (fun _ _ _ _ _ h => h) (fun hHeld => ?_)
    repeat (first
      | (refine seq_take (v := ?_) rfl ?_ ?_ ?_; rotate_left 1; rfl; (focus (intro wS hSw; have hk := below_rule hSw; go_simp; first | done | with_reducible rfl)); (try simp only [Act.put, List.setIfInBounds_toArray, List.set_cons_zero, List.set_cons_succ]))
      | (refine seq_skip rfl ?_ ?_; rfl; (try simp only [Act.put, List.setIfInBounds_toArray, List.set_cons_zero, List.set_cons_succ]))
      | (refine seq_run rfl (fun K hK => ?_); go_simp; (try (first | (go_at_call 44; refine (ckind_any t s so d N e.cell 0 0 _ HLA.out HK.out).mono ?_; rintro e w' ⟨rfl, hb'⟩))); (try go_wp2_with fail); refine hK.out _ _ ?_ ?_; (focus (first | exact below_step hHeld hb' | exact below_new hHeld _ | exact hHeld)); (try clear hb'); clear hHeld hK K; intro hHeld; (try simp only [Act.put, List.setIfInBounds_toArray, List.set_cons_zero, List.set_cons_succ])))
    first | refine seq_done ?_ | skip
    have HB3 := Lib.hid (below_step HB2.out hHeld)
    have HO3 := Lib.hid (HO2.out.later hHeld)
    have HW3 := Lib.hid (HW2.out.later hHeld)
    clear hHeld e0 e1 e2 e3 e4 e5 q0 q1 q2 q3 q4 q5
    obtain ⟨e0, e1, e2, e3, e4, e5⟩ : _ ∧ _ ∧ _ ∧ _ ∧ _ ∧ _ := ⟨HO3.out.at' 0 _ rfl, HO3.out.at' 1 _ rfl, HO3.out.at' 2 _ rfl, HO3.out.at' 3 _ rfl, HO3.out.at' 4 _ rfl, HO3.out.at' 5 _ rfl⟩
    obtain ⟨q0, q1, q2, q3, q4, q5⟩ : _ ∧ _ ∧ _ ∧ _ ∧ _ ∧ _ := ⟨HW3.out.obj.at' 0 _ rfl, HW3.out.obj.at' 1 _ rfl, HW3.out.obj.at' 2 _ rfl, HW3.out.obj.at' 3 _ rfl, HW3.out.obj.at' 4 _ rfl, HW3.out.obj.at' 5 _ rfl⟩
    go_wp2_with fail
    go_ret
    exact ⟨rfl, HB3.out⟩
  · have hmid : bo = true ↔ (if e.cell < N then MayW s e else if e.cell < 2 * N then MayV N s f g e else if e.cell < 2 * N + t then MayH N e else MayN so (e.cell - 2 * N - t) e) := ⟨fun hq => (hb.1 hq).2.2.2.2.2, fun hq => hb.2 ⟨c1, c2, by omega, by omega, C5.out, hq⟩⟩
    rw [if_pos c6] at hmid
    have HB := Lib.hid hmid
    clear hb hmid
    have HK : Hid (KindC t N e.cell 1 (e.cell)) := .inr (.inl ⟨c3, c6, rfl, rfl⟩)
    have HB2 := Lib.hid (below_step HB0.out hHeld)
    have HO2 := Lib.hid (HO.out.later hHeld)
    have HW2 := Lib.hid (HW.out.later hHeld)
    generalize w1.drew = w2 at HB2 HO2 HW2 hHeld ⊢
    clear hHeld e0 e1 e2 e3 e4 e5 q0 q1 q2 q3 q4 q5 HMC
    obtain ⟨e0, e1, e2, e3, e4, e5⟩ : _ ∧ _ ∧ _ ∧ _ ∧ _ ∧ _ := ⟨HO2.out.at' 0 _ rfl, HO2.out.at' 1 _ rfl, HO2.out.at' 2 _ rfl, HO2.out.at' 3 _ rfl, HO2.out.at' 4 _ rfl, HO2.out.at' 5 _ rfl⟩
    obtain ⟨q0, q1, q2, q3, q4, q5⟩ : _ ∧ _ ∧ _ ∧ _ ∧ _ ∧ _ := ⟨HW2.out.obj.at' 0 _ rfl, HW2.out.obj.at' 1 _ rfl, HW2.out.obj.at' 2 _ rfl, HW2.out.obj.at' 3 _ rfl, HW2.out.obj.at' 4 _ rfl, HW2.out.obj.at' 5 _ rfl⟩
    go_wp2_with fail
    refine wp_region_seq ((0, true) :: (1, true) :: (2, true) :: (3, true) :: (4, true) :: (5, true) :: (6, false) :: (7, true) :: (8, true) :: (9, true) :: (10, true) :: (11, true) :: []) (by kernel_rfl) (by kernel_rfl) (by kernel_rfl) (by decide) (fun _ _ _ _ _ h => h) (fun hHeld => ?_)
    repeat (first
      | (refine seq_take (v := ?_) rfl ?_ ?_ ?_; rotate_left 1; rfl; (focus (intro wS hSw; have hk := below_rule hSw; go_simp; first | done | with_reducible rfl)); (try simp only [Act.put, List.setIfInBounds_toArray, List.set_cons_zero, List.set_cons_succ]))
      | (refine seq_skip rfl ?_ ?_; rfl; (try simp only [Act.put, List.setIfInBounds_toArray, List.set_cons_zero, List.set_cons_succ]))
      | (refine seq_run rfl (fun K hK => ?_); go_simp; (try (first | (go_at_call 44; refine (ckind_any t s so d N e.cell 1 (e.cell) _ HLA.out HK.out).mono ?_; rintro e w' ⟨rfl, hb'⟩))); (try go_wp2_with fail); refine hK.out _ _ ?_ ?_; (focus (first | exact below_step hHeld hb' | exact below_new hHeld _ | exact hHeld)); (try clear hb'); clear hHeld hK K; intro hHeld; (try simp only [Act.put, List.setIfInBounds_toArray, List.set_cons_zero, List.set_cons_succ])))
    first | refine seq_done ?_ | skip
    have HB3 := Lib.hid (below_step HB2.out hHeld)
    have HO3 := Lib.hid (HO2.out.later hHeld)
    have HW3 := Lib.hid (HW2.out.later hHeld)
    clear hHeld e0 e1 e2 e3 e4 e5 q0 q1 q2 q3 q4 q5
    obtain ⟨e0, e1, e2, e3, e4, e5⟩ : _ ∧ _ ∧ _ ∧ _ ∧ _ ∧ _ := ⟨HO3.out.at' 0 _ rfl, HO3.out.at' 1 _ rfl, HO3.out.at' 2 _ rfl, HO3.out.at' 3 _ rfl, HO3.out.at' 4 _ rfl, HO3.out.at' 5 _ rfl⟩
    obtain ⟨q0, q1, q2, q3, q4, q5⟩ : _ ∧ _ ∧ _ ∧ _ ∧ _ ∧ _ := ⟨HW3.out.obj.at' 0 _ rfl, HW3.out.obj.at' 1 _ rfl, HW3.out.obj.at' 2 _ rfl, HW3.out.obj.at' 3 _ rfl, HW3.out.obj.at' 4 _ rfl, HW3.out.obj.at' 5 _ rfl⟩
    go_wp2_with fail
    refine (amay_word HW3.out HFE.out c3 c6 bo HB.out).mono ?_
    rintro r w4 ⟨rfl, hb4⟩
    have HB4 := Lib.hid (below_step HB3.out hb4)
    clear hb4
    go_wp2_with fail
    go_ret
    exact ⟨rfl, HB4.out⟩
  · have hmid : bo = true ↔ (if e.cell < N then MayW s e else if e.cell < 2 * N then MayV N s f g e else if e.cell < 2 * N + t then MayH N e else MayN so (e.cell - 2 * N - t) e) := ⟨fun hq => (hb.1 hq).2.2.2.2.2, fun hq => hb.2 ⟨c1, c2, by omega, by omega, C5.out, hq⟩⟩
    rw [if_neg (by omega), if_pos c7] at hmid
    have HB := Lib.hid hmid
    clear hb hmid
    have HK : Hid (KindC t N e.cell 2 (e.cell - N)) := .inr (.inr (.inl ⟨c6, c7, rfl, rfl⟩))
    have HB2 := Lib.hid (below_step HB0.out hHeld)
    have HO2 := Lib.hid (HO.out.later hHeld)
    have HW2 := Lib.hid (HW.out.later hHeld)
    generalize w1.drew = w2 at HB2 HO2 HW2 hHeld ⊢
    clear hHeld e0 e1 e2 e3 e4 e5 q0 q1 q2 q3 q4 q5 HMC
    obtain ⟨e0, e1, e2, e3, e4, e5⟩ : _ ∧ _ ∧ _ ∧ _ ∧ _ ∧ _ := ⟨HO2.out.at' 0 _ rfl, HO2.out.at' 1 _ rfl, HO2.out.at' 2 _ rfl, HO2.out.at' 3 _ rfl, HO2.out.at' 4 _ rfl, HO2.out.at' 5 _ rfl⟩
    obtain ⟨q0, q1, q2, q3, q4, q5⟩ : _ ∧ _ ∧ _ ∧ _ ∧ _ ∧ _ := ⟨HW2.out.obj.at' 0 _ rfl, HW2.out.obj.at' 1 _ rfl, HW2.out.obj.at' 2 _ rfl, HW2.out.obj.at' 3 _ rfl, HW2.out.obj.at' 4 _ rfl, HW2.out.obj.at' 5 _ rfl⟩
    go_wp2_with fail
    refine wp_region_seq ((0, true) :: (1, true) :: (2, true) :: (3, true) :: (4, true) :: (5, true) :: (6, false) :: (7, true) :: (8, true) :: (9, true) :: (10, true) :: (11, true) :: []) (by kernel_rfl) (by kernel_rfl) (by kernel_rfl) (by decide) (fun _ _ _ _ _ h => h) (fun hHeld => ?_)
    repeat (first
      | (refine seq_take (v := ?_) rfl ?_ ?_ ?_; rotate_left 1; rfl; (focus (intro wS hSw; have hk := below_rule hSw; go_simp; first | done | with_reducible rfl)); (try simp only [Act.put, List.setIfInBounds_toArray, List.set_cons_zero, List.set_cons_succ]))
      | (refine seq_skip rfl ?_ ?_; rfl; (try simp only [Act.put, List.setIfInBounds_toArray, List.set_cons_zero, List.set_cons_succ]))
      | (refine seq_run rfl (fun K hK => ?_); go_simp; (try (first | (go_at_call 44; refine (ckind_any t s so d N e.cell 2 (e.cell - N) _ HLA.out HK.out).mono ?_; rintro e w' ⟨rfl, hb'⟩))); (try go_wp2_with fail); refine hK.out _ _ ?_ ?_; (focus (first | exact below_step hHeld hb' | exact below_new hHeld _ | exact hHeld)); (try clear hb'); clear hHeld hK K; intro hHeld; (try simp only [Act.put, List.setIfInBounds_toArray, List.set_cons_zero, List.set_cons_succ])))
    first | refine seq_done ?_ | skip
    have HB3 := Lib.hid (below_step HB2.out hHeld)
    have HO3 := Lib.hid (HO2.out.later hHeld)
    have HW3 := Lib.hid (HW2.out.later hHeld)
    clear hHeld e0 e1 e2 e3 e4 e5 q0 q1 q2 q3 q4 q5
    obtain ⟨e0, e1, e2, e3, e4, e5⟩ : _ ∧ _ ∧ _ ∧ _ ∧ _ ∧ _ := ⟨HO3.out.at' 0 _ rfl, HO3.out.at' 1 _ rfl, HO3.out.at' 2 _ rfl, HO3.out.at' 3 _ rfl, HO3.out.at' 4 _ rfl, HO3.out.at' 5 _ rfl⟩
    obtain ⟨q0, q1, q2, q3, q4, q5⟩ : _ ∧ _ ∧ _ ∧ _ ∧ _ ∧ _ := ⟨HW3.out.obj.at' 0 _ rfl, HW3.out.obj.at' 1 _ rfl, HW3.out.obj.at' 2 _ rfl, HW3.out.obj.at' 3 _ rfl, HW3.out.obj.at' 4 _ rfl, HW3.out.obj.at' 5 _ rfl⟩
    go_wp2_with fail
    refine (amay_value HW3.out HFE.out c1 c2 c3 c6 c7 (e.cell - N) rfl bo HB.out).mono ?_
    rintro r w4 ⟨rfl, hb4⟩
    have HB4 := Lib.hid (below_step HB3.out hb4)
    clear hb4
    go_wp2_with fail
    go_ret
    exact ⟨rfl, HB4.out⟩
  · have hmid : bo = true ↔ (if e.cell < N then MayW s e else if e.cell < 2 * N then MayV N s f g e else if e.cell < 2 * N + t then MayH N e else MayN so (e.cell - 2 * N - t) e) := ⟨fun hq => (hb.1 hq).2.2.2.2.2, fun hq => hb.2 ⟨c1, c2, by omega, by omega, C5.out, hq⟩⟩
    rw [if_neg (by omega), if_neg (by omega), if_neg (by omega), Int.sub_sub] at hmid
    have HB := Lib.hid hmid
    clear hb hmid
    have HK : Hid (KindC t N e.cell 4 (e.cell - (2 * N + t))) := .inr (.inr (.inr (.inr ⟨c6, c7, rfl, rfl⟩)))
    have HB2 := Lib.hid (below_step HB0.out hHeld)
    have HO2 := Lib.hid (HO.out.later hHeld)
    have HW2 := Lib.hid (HW.out.later hHeld)
    generalize w1.drew = w2 at HB2 HO2 HW2 hHeld ⊢
    clear hHeld e0 e1 e2 e3 e4 e5 q0 q1 q2 q3 q4 q5 HMC
    obtain ⟨e0, e1, e2, e3, e4, e5⟩ : _ ∧ _ ∧ _ ∧ _ ∧ _ ∧ _ := ⟨HO2.out.at' 0 _ rfl, HO2.out.at' 1 _ rfl, HO2.out.at' 2 _ rfl, HO2.out.at' 3 _ rfl, HO2.out.at' 4 _ rfl, HO2.out.at' 5 _ rfl⟩
    obtain ⟨q0, q1, q2, q3, q4, q5⟩ : _ ∧ _ ∧ _ ∧ _ ∧ _ ∧ _ := ⟨HW2.out.obj.at' 0 _ rfl, HW2.out.obj.at' 1 _ rfl, HW2.out.obj.at' 2 _ rfl, HW2.out.obj.at' 3 _ rfl, HW2.out.obj.at' 4 _ rfl, HW2.out.obj.at' 5 _ rfl⟩
    go_wp2_with fail
    refine wp_region_seq ((0, true) :: (1, true) :: (2, true) :: (3, true) :: (4, true) :: (5, true) :: (6, false) :: (7, true) :: (8, true) :: (9, true) :: (10, true) :: (11, true) :: []) (by kernel_rfl) (by kernel_rfl) (by kernel_rfl) (by decide) (fun _ _ _ _ _ h => h) (fun hHeld => ?_)
    repeat (first
      | (refine seq_take (v := ?_) rfl ?_ ?_ ?_; rotate_left 1; rfl; (focus (intro wS hSw; have hk := below_rule hSw; go_simp; first | done | with_reducible rfl)); (try simp only [Act.put, List.setIfInBounds_toArray, List.set_cons_zero, List.set_cons_succ]))
      | (refine seq_skip rfl ?_ ?_; rfl; (try simp only [Act.put, List.setIfInBounds_toArray, List.set_cons_zero, List.set_cons_succ]))
      | (refine seq_run rfl (fun K hK => ?_); go_simp; (try (first | (go_at_call 44; refine (ckind_any t s so d N e.cell 4 (e.cell - (2 * N + t)) _ HLA.out HK.out).mono ?_; rintro e w' ⟨rfl, hb'⟩))); (try go_wp2_with fail); refine hK.out _ _ ?_ ?_; (focus (first | exact below_step hHeld hb' | exact below_new hHeld _ | exact hHeld)); (try clear hb'); clear hHeld hK K; intro hHeld; (try simp only [Act.put, List.setIfInBounds_toArray, List.set_cons_zero, List.set_cons_succ])))
    first | refine seq_done ?_ | skip
    have HB3 := Lib.hid (below_step HB2.out hHeld)
    have HO3 := Lib.hid (HO2.out.later hHeld)
    have HW3 := Lib.hid (HW2.out.later hHeld)
    clear hHeld e0 e1 e2 e3 e4 e5 q0 q1 q2 q3 q4 q5
    obtain ⟨e0, e1, e2, e3, e4, e5⟩ : _ ∧ _ ∧ _ ∧ _ ∧ _ ∧ _ := ⟨HO3.out.at' 0 _ rfl, HO3.out.at' 1 _ rfl, HO3.out.at' 2 _ rfl, HO3.out.at' 3 _ rfl, HO3.out.at' 4 _ rfl, HO3.out.at' 5 _ rfl⟩
    obtain ⟨q0, q1, q2, q3, q4, q5⟩ : _ ∧ _ ∧ _ ∧ _ ∧ _ ∧ _ := ⟨HW3.out.obj.at' 0 _ rfl, HW3.out.obj.at' 1 _ rfl, HW3.out.obj.at' 2 _ rfl, HW3.out.obj.at' 3 _ rfl, HW3.out.obj.at' 4 _ rfl, HW3.out.obj.at' 5 _ rfl⟩
    go_wp2_with fail
    refine (amay_number HW3.out HFE.out (e.cell - (2 * N + t)) bo HB.out).mono ?_
    rintro r w4 ⟨rfl, hb4⟩
    have HB4 := Lib.hid (below_step HB3.out hb4)
    clear hb4
    go_wp2_with fail
    go_ret
    exact ⟨rfl, HB4.out⟩
  · have hmid : bo = true ↔ (if e.cell < N then MayW s e else if e.cell < 2 * N then MayV N s f g e else if e.cell < 2 * N + t then MayH N e else MayN so (e.cell - 2 * N - t) e) := ⟨fun hq => (hb.1 hq).2.2.2.2.2, fun hq => hb.2 ⟨c1, c2, by omega, by omega, C5.out, hq⟩⟩
    rw [if_neg (by omega), if_neg (by omega), if_pos c7] at hmid
    have HK : Hid (KindC t N e.cell 3 (e.cell - 2 * N)) := .inr (.inr (.inr (.inl ⟨c6, c7, rfl, rfl⟩)))
    unfold MayH at hmid
    have HMI := Lib.hid hmid
    clear hb hmid
    have HB2 := Lib.hid (below_step HB0.out hHeld)
    have HO2 := Lib.hid (HO.out.later hHeld)
    have HW2 := Lib.hid (HW.out.later hHeld)
    generalize w1.drew = w2 at HB2 HO2 HW2 hHeld ⊢
    clear hHeld e0 e1 e2 e3 e4 e5 q0 q1 q2 q3 q4 q5 HMC
    obtain ⟨e0, e1, e2, e3, e4, e5⟩ : _ ∧ _ ∧ _ ∧ _ ∧ _ ∧ _ := ⟨HO2.out.at' 0 _ rfl, HO2.out.at' 1 _ rfl, HO2.out.at' 2 _ rfl, HO2.out.at' 3 _ rfl, HO2.out.at' 4 _ rfl, HO2.out.at' 5 _ rfl⟩
    obtain ⟨q0, q1, q2, q3, q4, q5⟩ : _ ∧ _ ∧ _ ∧ _ ∧ _ ∧ _ := ⟨HW2.out.obj.at' 0 _ rfl, HW2.out.obj.at' 1 _ rfl, HW2.out.obj.at' 2 _ rfl, HW2.out.obj.at' 3 _ rfl, HW2.out.obj.at' 4 _ rfl, HW2.out.obj.at' 5 _ rfl⟩
    go_wp2_with fail
    refine wp_region_seq ((0, true) :: (1, true) :: (2, true) :: (3, true) :: (4, true) :: (5, true) :: (6, false) :: (7, true) :: (8, true) :: (9, true) :: (10, true) :: (11, true) :: []) (by kernel_rfl) (by kernel_rfl) (by kernel_rfl) (by decide) (fun _ _ _ _ _ h => h) (fun hHeld => ?_)
    repeat (first
      | (refine seq_take (v := ?_) rfl ?_ ?_ ?_; rotate_left 1; rfl; (focus (intro wS hSw; have hk := below_rule hSw; go_simp; first | done | with_reducible rfl)); (try simp only [Act.put, List.setIfInBounds_toArray, List.set_cons_zero, List.set_cons_succ]))
      | (refine seq_skip rfl ?_ ?_; rfl; (try simp only [Act.put, List.setIfInBounds_toArray, List.set_cons_zero, List.set_cons_succ]))
      | (refine seq_run rfl (fun K hK => ?_); go_simp; (try (first | (go_at_call 44; refine (ckind_any t s so d N e.cell 3 (e.cell - 2 * N) _ HLA.out HK.out).mono ?_; rintro e w' ⟨rfl, hb'⟩))); (try go_wp2_with fail); refine hK.out _ _ ?_ ?_; (focus (first | exact below_step hHeld hb' | exact below_new hHeld _ | exact hHeld)); (try clear hb'); clear hHeld hK K; intro hHeld; (try simp only [Act.put, List.setIfInBounds_toArray, List.set_cons_zero, List.set_cons_succ])))
    first | refine seq_done ?_ | skip
    have HB3 := Lib.hid (below_step HB2.out hHeld)
    have HO3 := Lib.hid (HO2.out.later hHeld)
    have HW3 := Lib.hid (HW2.out.later hHeld)
    clear hHeld e0 e1 e2 e3 e4 e5 q0 q1 q2 q3 q4 q5
    obtain ⟨e0, e1, e2, e3, e4, e5⟩ : _ ∧ _ ∧ _ ∧ _ ∧ _ ∧ _ := ⟨HO3.out.at' 0 _ rfl, HO3.out.at' 1 _ rfl, HO3.out.at' 2 _ rfl, HO3.out.at' 3 _ rfl, HO3.out.at' 4 _ rfl, HO3.out.at' 5 _ rfl⟩
    obtain ⟨q0, q1, q2, q3, q4, q5⟩ : _ ∧ _ ∧ _ ∧ _ ∧ _ ∧ _ := ⟨HW3.out.obj.at' 0 _ rfl, HW3.out.obj.at' 1 _ rfl, HW3.out.obj.at' 2 _ rfl, HW3.out.obj.at' 3 _ rfl, HW3.out.obj.at' 4 _ rfl, HW3.out.obj.at' 5 _ rfl⟩
    have hmid := HMI.out
    rcases (show (e.op = 0) ∨ (e.op = 1 ∧ e.who = e.cell - 2 * N) ∨ (e.op = 1 ∧ e.who ≠ e.cell - 2 * N) ∨ (e.op ≠ 0 ∧ e.op ≠ 1) from by omega) with gop | ⟨gop, gw⟩ | ⟨gop, gw⟩ | ⟨gn0, gn1⟩
    · obtain rfl : bo = true := hmid.2 (.inl gop)
      have z0 : (e.op == 0) = true := by simp [gop]
      have z1 : (e.op == 1) = false := by simp [gop]
      have z2 : (e.op == 2) = false := by simp [gop]
      have z3 : (e.op == 3) = false := by simp [gop]
      clear hmid gop
      go_wp2_with fail
      go_ret
      exact ⟨rfl, HB3.out⟩
    · obtain rfl : bo = true := hmid.2 (.inr ⟨gop, gw⟩)
      have z0 : (e.op == 0) = false := by simp [gop]
      have z1 : (e.op == 1) = true := by simp [gop]
      have z2 : (e.op == 2) = false := by simp [gop]
      have z3 : (e.op == 3) = false := by simp [gop]
      have z4 : (e.who == e.cell - 2 * (N : Int)) = true := beq_iff_eq.2 gw
      clear hmid gop gw
      go_wp2_with fail
      go_ret
      exact ⟨rfl, HB3.out⟩
    · obtain rfl : bo = false := by
        cases bo with
        | false => rfl
        | true => rcases hmid.1 rfl with hq | ⟨_, hq⟩ <;> omega
      have z0 : (e.op == 0) = false := by simp [gop]
      have z1 : (e.op == 1) = true := by simp [gop]
      have z2 : (e.op == 2) = false := by simp [gop]
      have z3 : (e.op == 3) = false := by simp [gop]
      have z4 : (e.who == e.cell - 2 * (N : Int)) = false := beq_false_of_ne gw
      clear hmid gop gw
      go_wp2_with fail
      go_ret
      exact ⟨rfl, HB3.out⟩
    · obtain rfl : bo = false := by
        cases bo with
        | false => rfl
        | true => rcases hmid.1 rfl with hq | ⟨_, hq⟩ <;> omega
      have z0 : (e.op == 0) = false := beq_false_of_ne gn0
      have z1 : (e.op == 1) = false := beq_false_of_ne gn1
      obtain ⟨zz2, z2⟩ : ∃ z, (e.op == 2) = z := ⟨_, rfl⟩
      obtain ⟨zz3, z3⟩ : ∃ z, (e.op == 3) = z := ⟨_, rfl⟩
      clear hmid gn0 gn1
      go_wp2_with fail
      go_ret
      exact ⟨rfl, HB3.out⟩

theorem amay_any (h : WAt w wb bc bg t s so d N n f g) (hf : e.Fit) (b : Bool) (hb : b = true ↔ MayF t s so N f g e) :
    Calls Tryz.prog 20 #[pt wb, e.v] w fun r w' => r = .returned (.bool b) ∧ Below w.heap.size w w' := by
  by_cases c1 : 0 ≤ e.who
  · by_cases c2 : e.who < t
    · by_cases c5 : e.old = f e.cell
      · exact amay_in h hf c1 c2 c5 b hb
      · obtain rfl : b = false := by
          cases b with
          | false => rfl
          | true => exact absurd (hb.1 rfl).2.2.2.2.1 c5
        exact amay_out3 h hf c1 c2 c5
    · obtain rfl : b = false := by
        cases b with
        | false => rfl
        | true => exact absurd (hb.1 rfl).2.1 c2
      exact amay_out2 h hf c1 (by omega)
  · obtain rfl : b = false := by
      cases b with
      | false => rfl
      | true => exact absurd (hb.1 rfl).1 c1
    exact amay_out1 h hf (by omega)
end
end Go.Proofs.YtpbpkmmhdfahnaaGreat
