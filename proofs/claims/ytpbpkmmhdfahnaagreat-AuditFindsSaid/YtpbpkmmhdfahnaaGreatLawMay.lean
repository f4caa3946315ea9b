/-
  The contract of the law's own 'may': whether an event may be behind others. No condition but that numbers fit their kinds.
-/
import Derived.Test.YtpbpkmmhdfahnaaGreatEvRow
import Derived.Test.YtpbpkmmhdfahnaaGreatAMem
import Derived.Test.YtpbpkmmhdfahnaaGreatAKit
namespace Go.Proofs.YtpbpkmmhdfahnaaGreat
open Go.RowKit
set_option linter.unusedVariables false

/-- What stands at the law's beginning. -/
structure MayAt (w : World) (t s so d : Int) (N : Nat) (A : Option Addr) (n cap tb off : Nat) (L : List Ev) (e : Ev) : Prop where
  lay : Lay t s N
  row : IsEvs w A n cap tb off L
  n1 : n ≤ 100000
  fit : e.Fit
section
variable {w : World} {t s so d : Int} {N n cap tb off : Nat} {A : Option Addr} {L : List Ev} {e : Ev}

set_option maxRecDepth 100000 in
set_option maxHeartbeats 4000000 in
theorem may_out (h : MayAt w t s so d N A n cap tb off L e) (hc : e.who < 0 ∨ t ≤ e.who ∨ e.cell < 0 ∨ 2 * N + 2 * t ≤ e.cell ∨ e.old ≠ lastE L e.cell) :
    Calls Tryz.prog 27 #[cf t s so d, .slice A n cap, e.v] w fun r w' => r = .returned (.bool false) ∧ Below w.heap.size w w' := by
  rcases (by omega : e.who < 0 ∨ (0 ≤ e.who ∧ t ≤ e.who) ∨ (0 ≤ e.who ∧ e.who < t ∧ e.cell < 0) ∨ (0 ≤ e.who ∧ e.who < t ∧ 0 ≤ e.cell ∧ 2 * N + 2 * t ≤ e.cell) ∨ (0 ≤ e.who ∧ e.who < t ∧ 0 ≤ e.cell ∧ e.cell < 2 * N + 2 * t ∧ e.old ≠ lastE L e.cell)) with c1 | ⟨c1, c2⟩ | ⟨c1, c2, c3⟩ | ⟨c1, c2, c3, c4⟩ | ⟨c1, c2, c3, c4, c5⟩
  · clear hc
    obtain ⟨hl, hrow, hn1, hfe⟩ := h
    have HLA := Lib.hid hl
    have n1 := hl.n1
    have n2 := hl.n2
    have t1 := hl.t1
    have t2 := hl.t2
    have s1 := hl.s1
    have s2 := hl.s2
    have hb0 := below_new (below_new (Below.refl w.heap.size w) (.cells #[i64 t, i64 s, i64 so, i64 d] 29)) (e.obj 40)
    have HB0 := Lib.hid hb0
    have HC : Hid (IsObj ((w.alloc (.cells #[i64 t, i64 s, i64 so, i64 d] 29)).alloc (e.obj 40)) w.heap.size [i64 t, i64 s, i64 so, i64 d]) := Lib.hid ((IsObj.made w [i64 t, i64 s, i64 so, i64 d] 29).later (below_new (Below.refl _ _) _))
    have HO : Hid (IsObj ((w.alloc (.cells #[i64 t, i64 s, i64 so, i64 d] 29)).alloc (e.obj 40)) (w.heap.size + 1) [i64 e.who, i64 e.op, i64 e.cell, u64 e.old, u64 e.new, .bool e.ok]) := Lib.hid (by have h := IsObj.made (w.alloc (.cells #[i64 t, i64 s, i64 so, i64 d] 29)) [i64 e.who, i64 e.op, i64 e.cell, u64 e.old, u64 e.new, .bool e.ok] 40; simp only [World.size_alloc] at h; exact h)
    have HL := Lib.hid (hrow.later hb0)
    have HFE := Lib.hid hfe
    have hs0 : w.heap.size + 1 < ((w.alloc (.cells #[i64 t, i64 s, i64 so, i64 d] 29)).alloc (e.obj 40)).heap.size := HO.out.lt
    clear hl hrow hb0 hfe
    go_enter Tryz.func27, Tryz.ntmps27
    have p1 : decide (e.who < 0) = true := decide_eq_true c1
    go_wp2_with fail
    generalize (w.alloc (.cells #[i64 t, i64 s, i64 so, i64 d] 29)).alloc (e.obj 40) = w1 at HC HO HL HB0 hs0 ⊢
    generalize w.heap.size = b at HC HO hs0 ⊢
    obtain ⟨q0, q1, q2, q3⟩ : _ ∧ _ ∧ _ ∧ _ := ⟨HC.out.at' 0 _ rfl, HC.out.at' 1 _ rfl, HC.out.at' 2 _ rfl, HC.out.at' 3 _ rfl⟩
    obtain ⟨e0, e1, e2, e3, e4, e5⟩ : _ ∧ _ ∧ _ ∧ _ ∧ _ ∧ _ := ⟨HO.out.at' 0 _ rfl, HO.out.at' 1 _ rfl, HO.out.at' 2 _ rfl, HO.out.at' 3 _ rfl, HO.out.at' 4 _ rfl, HO.out.at' 5 _ rfl⟩
    refine wp_region_seq ((0, true) :: (1, true) :: (2, true) :: (3, true) :: (4, true) :: (5, true) :: (6, true) :: (7, true) :: (8, true) :: (9, true) :: (10, true) :: (11, true) :: (12, true) :: (13, true) :: (14, true) :: (15, true) :: (16, true) :: (17, true) :: (18, true) :: (19, false) :: (20, true) :: (21, true) :: (22, true) :: (23, true) :: (24, true) :: (25, true) :: (26, true) :: (27, true) :: (28, false) :: (29, true) :: (30, true) :: []) (by kernel_rfl) (by kernel_rfl) (by kernel_rfl) (by decide) (fun _ _ _ _ _ h => h) (fun hHeld => ?_)
    iterate 19 (first | (refine seq_take (v := ?_) rfl ?_ ?_ ?_; rotate_left 1; rfl; (focus (intro wS hSw; have hk := below_rule hSw; go_simp; first | done | with_reducible rfl)); (try simp only [Act.put, List.setIfInBounds_toArray, List.set_cons_zero, List.set_cons_succ])) | (refine seq_skip rfl ?_ ?_; rfl; (try simp only [Act.put, List.setIfInBounds_toArray, List.set_cons_zero, List.set_cons_succ])))
    refine seq_run rfl (fun K hK => ?_)
    go_simp
    refine hK.out _ _ hHeld (fun _ => ?_)
    (try simp only [Act.put, List.setIfInBounds_toArray, List.set_cons_zero, List.set_cons_succ])
    clear hK K
    iterate 8 (first | (refine seq_take (v := ?_) rfl ?_ ?_ ?_; rotate_left 1; rfl; (focus (intro wS hSw; have hk := below_rule hSw; go_simp; first | done | with_reducible rfl)); (try simp only [Act.put, List.setIfInBounds_toArray, List.set_cons_zero, List.set_cons_succ])) | (refine seq_skip rfl ?_ ?_; rfl; (try simp only [Act.put, List.setIfInBounds_toArray, List.set_cons_zero, List.set_cons_succ])))
    refine seq_run rfl (fun K hK => ?_)
    go_simp
    refine hK.out _ _ hHeld (fun _ => ?_)
    (try simp only [Act.put, List.setIfInBounds_toArray, List.set_cons_zero, List.set_cons_succ])
    clear hK K
    iterate 2 (first | (refine seq_take (v := ?_) rfl ?_ ?_ ?_; rotate_left 1; rfl; (focus (intro wS hSw; have hk := below_rule hSw; go_simp; first | done | with_reducible rfl)); (try simp only [Act.put, List.setIfInBounds_toArray, List.set_cons_zero, List.set_cons_succ])) | (refine seq_skip rfl ?_ ?_; rfl; (try simp only [Act.put, List.setIfInBounds_toArray, List.set_cons_zero, List.set_cons_succ])))
    refine seq_done ?_
    go_wp2_with fail
    go_ret
    exact ⟨rfl, below_step HB0.out hHeld⟩
  · clear hc
    obtain ⟨hl, hrow, hn1, hfe⟩ := h
    have HLA := Lib.hid hl
    have n1 := hl.n1
    have n2 := hl.n2
    have t1 := hl.t1
    have t2 := hl.t2
    have s1 := hl.s1
    have s2 := hl.s2
    have hb0 := below_new (below_new (Below.refl w.heap.size w) (.cells #[i64 t, i64 s, i64 so, i64 d] 29)) (e.obj 40)
    have HB0 := Lib.hid hb0
    have HC : Hid (IsObj ((w.alloc (.cells #[i64 t, i64 s, i64 so, i64 d] 29)).alloc (e.obj 40)) w.heap.size [i64 t, i64 s, i64 so, i64 d]) := Lib.hid ((IsObj.made w [i64 t, i64 s, i64 so, i64 d] 29).later (below_new (Below.refl _ _) _))
    have HO : Hid (IsObj ((w.alloc (.cells #[i64 t, i64 s, i64 so, i64 d] 29)).alloc (e.obj 40)) (w.heap.size + 1) [i64 e.who, i64 e.op, i64 e.cell, u64 e.old, u64 e.new, .bool e.ok]) := Lib.hid (by have h := IsObj.made (w.alloc (.cells #[i64 t, i64 s, i64 so, i64 d] 29)) [i64 e.who, i64 e.op, i64 e.cell, u64 e.old, u64 e.new, .bool e.ok] 40; simp only [World.size_alloc] at h; exact h)
    have HL := Lib.hid (hrow.later hb0)
    have HFE := Lib.hid hfe
    have hs0 : w.heap.size + 1 < ((w.alloc (.cells #[i64 t, i64 s, i64 so, i64 d] 29)).alloc (e.obj 40)).heap.size := HO.out.lt
    clear hl hrow hb0 hfe
    go_enter Tryz.func27, Tryz.ntmps27
    have p1 : ¬ e.who < 0 := by omega
    have p1' : decide (e.who < 0) = false := decide_eq_false p1
    have p2 : decide (t ≤ e.who) = true := decide_eq_true c2
    go_wp2_with fail
    generalize (w.alloc (.cells #[i64 t, i64 s, i64 so, i64 d] 29)).alloc (e.obj 40) = w1 at HC HO HL HB0 hs0 ⊢
    generalize w.heap.size = b at HC HO hs0 ⊢
    obtain ⟨q0, q1, q2, q3⟩ : _ ∧ _ ∧ _ ∧ _ := ⟨HC.out.at' 0 _ rfl, HC.out.at' 1 _ rfl, HC.out.at' 2 _ rfl, HC.out.at' 3 _ rfl⟩
    obtain ⟨e0, e1, e2, e3, e4, e5⟩ : _ ∧ _ ∧ _ ∧ _ ∧ _ ∧ _ := ⟨HO.out.at' 0 _ rfl, HO.out.at' 1 _ rfl, HO.out.at' 2 _ rfl, HO.out.at' 3 _ rfl, HO.out.at' 4 _ rfl, HO.out.at' 5 _ rfl⟩
    refine wp_region_seq ((0, true) :: (1, true) :: (2, true) :: (3, true) :: (4, true) :: (5, true) :: (6, true) :: (7, true) :: (8, true) :: (9, true) :: (10, true) :: (11, true) :: (12, true) :: (13, true) :: (14, true) :: (15, true) :: (16, true) :: (17, true) :: (18, true) :: (19, false) :: (20, true) :: (21, true) :: (22, true) :: (23, true) :: (24, true) :: (25, true) :: (26, true) :: (27, true) :: (28, false) :: (29, true) :: (30, true) :: []) (by kernel_rfl) (by kernel_rfl) (by kernel_rfl) (by decide) (fun _ _ _ _ _ h => h) (fun hHeld => ?_)
    iterate 19 (first | (refine seq_take (v := ?_) rfl ?_ ?_ ?_; rotate_left 1; rfl; (focus (intro wS hSw; have hk := below_rule hSw; go_simp; first | done | with_reducible rfl)); (try simp only [Act.put, List.setIfInBounds_toArray, List.set_cons_zero, List.set_cons_succ])) | (refine seq_skip rfl ?_ ?_; rfl; (try simp only [Act.put, List.setIfInBounds_toArray, List.set_cons_zero, List.set_cons_succ])))
    refine seq_run rfl (fun K hK => ?_)
    go_simp
    refine hK.out _ _ hHeld (fun _ => ?_)
    (try simp only [Act.put, List.setIfInBounds_toArray, List.set_cons_zero, List.set_cons_succ])
    clear hK K
    iterate 8 (first | (refine seq_take (v := ?_) rfl ?_ ?_ ?_; rotate_left 1; rfl; (focus (intro wS hSw; have hk := below_rule hSw; go_simp; first | done | with_reducible rfl)); (try simp only [Act.put, List.setIfInBounds_toArray, List.set_cons_zero, List.set_cons_succ])) | (refine seq_skip rfl ?_ ?_; rfl; (try simp only [Act.put, List.setIfInBounds_toArray, List.set_cons_zero, List.set_cons_succ])))
    refine seq_run rfl (fun K hK => ?_)
    go_simp
    refine hK.out _ _ hHeld (fun _ => ?_)
    (try simp only [Act.put, List.setIfInBounds_toArray, List.set_cons_zero, List.set_cons_succ])
    clear hK K
    iterate 2 (first | (refine seq_take (v := ?_) rfl ?_ ?_ ?_; rotate_left 1; rfl; (focus (intro wS hSw; have hk := below_rule hSw; go_simp; first | done | with_reducible rfl)); (try simp only [Act.put, List.setIfInBounds_toArray, List.set_cons_zero, List.set_cons_succ])) | (refine seq_skip rfl ?_ ?_; rfl; (try simp only [Act.put, List.setIfInBounds_toArray, List.set_cons_zero, List.set_cons_succ])))
    refine seq_done ?_
    go_wp2_with fail
    go_ret
    exact ⟨rfl, below_step HB0.out hHeld⟩
  · clear hc
    obtain ⟨hl, hrow, hn1, hfe⟩ := h
    have HLA := Lib.hid hl
    have n1 := hl.n1
    have n2 := hl.n2
    have t1 := hl.t1
    have t2 := hl.t2
    have s1 := hl.s1
    have s2 := hl.s2
    have hb0 := below_new (below_new (Below.refl w.heap.size w) (.cells #[i64 t, i64 s, i64 so, i64 d] 29)) (e.obj 40)
    have HB0 := Lib.hid hb0
    have HC : Hid (IsObj ((w.alloc (.cells #[i64 t, i64 s, i64 so, i64 d] 29)).alloc (e.obj 40)) w.heap.size [i64 t, i64 s, i64 so, i64 d]) := Lib.hid ((IsObj.made w [i64 t, i64 s, i64 so, i64 d] 29).later (below_new (Below.refl _ _) _))
    have HO : Hid (IsObj ((w.alloc (.cells #[i64 t, i64 s, i64 so, i64 d] 29)).alloc (e.obj 40)) (w.heap.size + 1) [i64 e.who, i64 e.op, i64 e.cell, u64 e.old, u64 e.new, .bool e.ok]) := Lib.hid (by have h := IsObj.made (w.alloc (.cells #[i64 t, i64 s, i64 so, i64 d] 29)) [i64 e.who, i64 e.op, i64 e.cell, u64 e.old, u64 e.new, .bool e.ok] 40; simp only [World.size_alloc] at h; exact h)
    have HL := Lib.hid (hrow.later hb0)
    have HFE := Lib.hid hfe
    have hs0 : w.heap.size + 1 < ((w.alloc (.cells #[i64 t, i64 s, i64 so, i64 d] 29)).alloc (e.obj 40)).heap.size := HO.out.lt
    clear hl hrow hb0 hfe
    go_enter Tryz.func27, Tryz.ntmps27
    have p1 : ¬ e.who < 0 := by omega
    have p1' : decide (e.who < 0) = false := decide_eq_false p1
    have p2 : ¬ t ≤ e.who := by omega
    have p2' : decide (t ≤ e.who) = false := decide_eq_false p2
    have p3 : decide (e.cell < 0) = true := decide_eq_true c3
    go_wp2_with fail
    generalize (w.alloc (.cells #[i64 t, i64 s, i64 so, i64 d] 29)).alloc (e.obj 40) = w1 at HC HO HL HB0 hs0 ⊢
    generalize w.heap.size = b at HC HO hs0 ⊢
    obtain ⟨q0, q1, q2, q3⟩ : _ ∧ _ ∧ _ ∧ _ := ⟨HC.out.at' 0 _ rfl, HC.out.at' 1 _ rfl, HC.out.at' 2 _ rfl, HC.out.at' 3 _ rfl⟩
    obtain ⟨e0, e1, e2, e3, e4, e5⟩ : _ ∧ _ ∧ _ ∧ _ ∧ _ ∧ _ := ⟨HO.out.at' 0 _ rfl, HO.out.at' 1 _ rfl, HO.out.at' 2 _ rfl, HO.out.at' 3 _ rfl, HO.out.at' 4 _ rfl, HO.out.at' 5 _ rfl⟩
    refine wp_region_seq ((0, true) :: (1, true) :: (2, true) :: (3, true) :: (4, true) :: (5, true) :: (6, true) :: (7, true) :: (8, true) :: (9, true) :: (10, true) :: (11, true) :: (12, true) :: (13, true) :: (14, true) :: (15, true) :: (16, true) :: (17, true) :: (18, true) :: (19, false) :: (20, true) :: (21, true) :: (22, true) :: (23, true) :: (24, true) :: (25, true) :: (26, true) :: (27, true) :: (28, false) :: (29, true) :: (30, true) :: []) (by kernel_rfl) (by kernel_rfl) (by kernel_rfl) (by decide) (fun _ _ _ _ _ h => h) (fun hHeld => ?_)
    iterate 19 (first | (refine seq_take (v := ?_) rfl ?_ ?_ ?_; rotate_left 1; rfl; (focus (intro wS hSw; have hk := below_rule hSw; go_simp; first | done | with_reducible rfl)); (try simp only [Act.put, List.setIfInBounds_toArray, List.set_cons_zero, List.set_cons_succ])) | (refine seq_skip rfl ?_ ?_; rfl; (try simp only [Act.put, List.setIfInBounds_toArray, List.set_cons_zero, List.set_cons_succ])))
    refine seq_run rfl (fun K hK => ?_)
    go_simp
    refine hK.out _ _ hHeld (fun _ => ?_)
    (try simp only [Act.put, List.setIfInBounds_toArray, List.set_cons_zero, List.set_cons_succ])
    clear hK K
    iterate 8 (first | (refine seq_take (v := ?_) rfl ?_ ?_ ?_; rotate_left 1; rfl; (focus (intro wS hSw; have hk := below_rule hSw; go_simp; first | done | with_reducible rfl)); (try simp only [Act.put, List.setIfInBounds_toArray, List.set_cons_zero, List.set_cons_succ])) | (refine seq_skip rfl ?_ ?_; rfl; (try simp only [Act.put, List.setIfInBounds_toArray, List.set_cons_zero, List.set_cons_succ])))
    refine seq_run rfl (fun K hK => ?_)
    go_simp
    refine hK.out _ _ hHeld (fun _ => ?_)
    (try simp only [Act.put, List.setIfInBounds_toArray, List.set_cons_zero, List.set_cons_succ])
    clear hK K
    iterate 2 (first | (refine seq_take (v := ?_) rfl ?_ ?_ ?_; rotate_left 1; rfl; (focus (intro wS hSw; have hk := below_rule hSw; go_simp; first | done | with_reducible rfl)); (try simp only [Act.put, List.setIfInBounds_toArray, List.set_cons_zero, List.set_cons_succ])) | (refine seq_skip rfl ?_ ?_; rfl; (try simp only [Act.put, List.setIfInBounds_toArray, List.set_cons_zero, List.set_cons_succ])))
    refine seq_done ?_
    go_wp2_with fail
    go_ret
    exact ⟨rfl, below_step HB0.out hHeld⟩
  · clear hc
    obtain ⟨hl, hrow, hn1, hfe⟩ := h
    have HLA := Lib.hid hl
    have n1 := hl.n1
    have n2 := hl.n2
    have t1 := hl.t1
    have t2 := hl.t2
    have s1 := hl.s1
    have s2 := hl.s2
    have hb0 := below_new (below_new (Below.refl w.heap.size w) (.cells #[i64 t, i64 s, i64 so, i64 d] 29)) (e.obj 40)
    have HB0 := Lib.hid hb0
    have HC : Hid (IsObj ((w.alloc (.cells #[i64 t, i64 s, i64 so, i64 d] 29)).alloc (e.obj 40)) w.heap.size [i64 t, i64 s, i64 so, i64 d]) := Lib.hid ((IsObj.made w [i64 t, i64 s, i64 so, i64 d] 29).later (below_new (Below.refl _ _) _))
    have HO : Hid (IsObj ((w.alloc (.cells #[i64 t, i64 s, i64 so, i64 d] 29)).alloc (e.obj 40)) (w.heap.size + 1) [i64 e.who, i64 e.op, i64 e.cell, u64 e.old, u64 e.new, .bool e.ok]) := Lib.hid (by have h := IsObj.made (w.alloc (.cells #[i64 t, i64 s, i64 so, i64 d] 29)) [i64 e.who, i64 e.op, i64 e.cell, u64 e.old, u64 e.new, .bool e.ok] 40; simp only [World.size_alloc] at h; exact h)
    have HL := Lib.hid (hrow.later hb0)
    have HFE := Lib.hid hfe
    have hs0 : w.heap.size + 1 < ((w.alloc (.cells #[i64 t, i64 s, i64 so, i64 d] 29)).alloc (e.obj 40)).heap.size := HO.out.lt
    clear hl hrow hb0 hfe
    go_enter Tryz.func27, Tryz.ntmps27
    have p1 : ¬ e.who < 0 := by omega
    have p1' : decide (e.who < 0) = false := decide_eq_false p1
    have p2 : ¬ t ≤ e.who := by omega
    have p2' : decide (t ≤ e.who) = false := decide_eq_false p2
    have p3 : ¬ e.cell < 0 := by omega
    have p3' : decide (e.cell < 0) = false := decide_eq_false p3
    have p4 : decide (2 * (N : Int) + 2 * t ≤ e.cell) = true := decide_eq_true c4
    go_wp2_with fail
    generalize (w.alloc (.cells #[i64 t, i64 s, i64 so, i64 d] 29)).alloc (e.obj 40) = w1 at HC HO HL HB0 hs0 ⊢
    generalize w.heap.size = b at HC HO hs0 ⊢
    obtain ⟨q0, q1, q2, q3⟩ : _ ∧ _ ∧ _ ∧ _ := ⟨HC.out.at' 0 _ rfl, HC.out.at' 1 _ rfl, HC.out.at' 2 _ rfl, HC.out.at' 3 _ rfl⟩
    obtain ⟨e0, e1, e2, e3, e4, e5⟩ : _ ∧ _ ∧ _ ∧ _ ∧ _ ∧ _ := ⟨HO.out.at' 0 _ rfl, HO.out.at' 1 _ rfl, HO.out.at' 2 _ rfl, HO.out.at' 3 _ rfl, HO.out.at' 4 _ rfl, HO.out.at' 5 _ rfl⟩
    refine wp_region_seq ((0, true) :: (1, true) :: (2, true) :: (3, true) :: (4, true) :: (5, true) :: (6, true) :: (7, true) :: (8, true) :: (9, true) :: (10, true) :: (11, true) :: (12, true) :: (13, true) :: (14, true) :: (15, true) :: (16, true) :: (17, true) :: (18, true) :: (19, false) :: (20, true) :: (21, true) :: (22, true) :: (23, true) :: (24, true) :: (25, true) :: (26, true) :: (27, true) :: (28, false) :: (29, true) :: (30, true) :: []) (by kernel_rfl) (by kernel_rfl) (by kernel_rfl) (by decide) (fun _ _ _ _ _ h => h) (fun hHeld => ?_)
    iterate 19 (first | (refine seq_take (v := ?_) rfl ?_ ?_ ?_; rotate_left 1; rfl; (focus (intro wS hSw; have hk := below_rule hSw; go_simp; first | done | with_reducible rfl)); (try simp only [Act.put, List.setIfInBounds_toArray, List.set_cons_zero, List.set_cons_succ])) | (refine seq_skip rfl ?_ ?_; rfl; (try simp only [Act.put, List.setIfInBounds_toArray, List.set_cons_zero, List.set_cons_succ])))
    refine seq_run rfl (fun K hK => ?_)
    go_simp
    go_at_call 39
    refine (ccells_any t s so d N _ HLA.out).mono ?_
    rintro r w9 ⟨rfl, hb'⟩
    (try go_wp2_with fail)
    refine hK.out _ _ (below_step hHeld hb') ?_
    replace hHeld := below_step hHeld hb'
    clear hb' hK K
    intro _
    (try simp only [Act.put, List.setIfInBounds_toArray, List.set_cons_zero, List.set_cons_succ])
    iterate 8 (first | (refine seq_take (v := ?_) rfl ?_ ?_ ?_; rotate_left 1; rfl; (focus (intro wS hSw; have hk := below_rule hSw; go_simp; first | done | with_reducible rfl)); (try simp only [Act.put, List.setIfInBounds_toArray, List.set_cons_zero, List.set_cons_succ])) | (refine seq_skip rfl ?_ ?_; rfl; (try simp only [Act.put, List.setIfInBounds_toArray, List.set_cons_zero, List.set_cons_succ])))
    refine seq_run rfl (fun K hK => ?_)
    go_simp
    refine hK.out _ _ hHeld (fun _ => ?_)
    (try simp only [Act.put, List.setIfInBounds_toArray, List.set_cons_zero, List.set_cons_succ])
    clear hK K
    iterate 2 (first | (refine seq_take (v := ?_) rfl ?_ ?_ ?_; rotate_left 1; rfl; (focus (intro wS hSw; have hk := below_rule hSw; go_simp; first | done | with_reducible rfl)); (try simp only [Act.put, List.setIfInBounds_toArray, List.set_cons_zero, List.set_cons_succ])) | (refine seq_skip rfl ?_ ?_; rfl; (try simp only [Act.put, List.setIfInBounds_toArray, List.set_cons_zero, List.set_cons_succ])))
    refine seq_done ?_
    go_wp2_with fail
    go_ret
    exact ⟨rfl, below_step HB0.out hHeld⟩
  · clear hc
    obtain ⟨hl, hrow, hn1, hfe⟩ := h
    have HLA := Lib.hid hl
    have n1 := hl.n1
    have n2 := hl.n2
    have t1 := hl.t1
    have t2 := hl.t2
    have s1 := hl.s1
    have s2 := hl.s2
    have hb0 := below_new (below_new (Below.refl w.heap.size w) (.cells #[i64 t, i64 s, i64 so, i64 d] 29)) (e.obj 40)
    have HB0 := Lib.hid hb0
    have HC : Hid (IsObj ((w.alloc (.cells #[i64 t, i64 s, i64 so, i64 d] 29)).alloc (e.obj 40)) w.heap.size [i64 t, i64 s, i64 so, i64 d]) := Lib.hid ((IsObj.made w [i64 t, i64 s, i64 so, i64 d] 29).later (below_new (Below.refl _ _) _))
    have HO : Hid (IsObj ((w.alloc (.cells #[i64 t, i64 s, i64 so, i64 d] 29)).alloc (e.obj 40)) (w.heap.size + 1) [i64 e.who, i64 e.op, i64 e.cell, u64 e.old, u64 e.new, .bool e.ok]) := Lib.hid (by have h := IsObj.made (w.alloc (.cells #[i64 t, i64 s, i64 so, i64 d] 29)) [i64 e.who, i64 e.op, i64 e.cell, u64 e.old, u64 e.new, .bool e.ok] 40; simp only [World.size_alloc] at h; exact h)
    have HL := Lib.hid (hrow.later hb0)
    have HFE := Lib.hid hfe
    have hs0 : w.heap.size + 1 < ((w.alloc (.cells #[i64 t, i64 s, i64 so, i64 d] 29)).alloc (e.obj 40)).heap.size := HO.out.lt
    clear hl hrow hb0 hfe
    go_enter Tryz.func27, Tryz.ntmps27
    have p1 : ¬ e.who < 0 := by omega
    have p1' : decide (e.who < 0) = false := decide_eq_false p1
    have p2 : ¬ t ≤ e.who := by omega
    have p2' : decide (t ≤ e.who) = false := decide_eq_false p2
    have p3 : ¬ e.cell < 0 := by omega
    have p3' : decide (e.cell < 0) = false := decide_eq_false p3
    have p4 : ¬ 2 * (N : Int) + 2 * t ≤ e.cell := by omega
    have p4' : decide (2 * (N : Int) + 2 * t ≤ e.cell) = false := decide_eq_false p4
    obtain ⟨la, hla⟩ : ∃ x, lastE L e.cell = x := ⟨_, rfl⟩
    rw [hla] at c5
    have p5 : (e.old != la) = true := bne_iff_ne.2 c5
    have HLA5 := Lib.hid hla
    clear hla c5
    go_wp2_with fail
    generalize (w.alloc (.cells #[i64 t, i64 s, i64 so, i64 d] 29)).alloc (e.obj 40) = w1 at HC HO HL HB0 hs0 ⊢
    generalize w.heap.size = b at HC HO hs0 ⊢
    obtain ⟨q0, q1, q2, q3⟩ : _ ∧ _ ∧ _ ∧ _ := ⟨HC.out.at' 0 _ rfl, HC.out.at' 1 _ rfl, HC.out.at' 2 _ rfl, HC.out.at' 3 _ rfl⟩
    obtain ⟨e0, e1, e2, e3, e4, e5⟩ : _ ∧ _ ∧ _ ∧ _ ∧ _ ∧ _ := ⟨HO.out.at' 0 _ rfl, HO.out.at' 1 _ rfl, HO.out.at' 2 _ rfl, HO.out.at' 3 _ rfl, HO.out.at' 4 _ rfl, HO.out.at' 5 _ rfl⟩
    refine wp_region_seq ((0, true) :: (1, true) :: (2, true) :: (3, true) :: (4, true) :: (5, true) :: (6, true) :: (7, true) :: (8, true) :: (9, true) :: (10, true) :: (11, true) :: (12, true) :: (13, true) :: (14, true) :: (15, true) :: (16, true) :: (17, true) :: (18, true) :: (19, false) :: (20, true) :: (21, true) :: (22, true) :: (23, true) :: (24, true) :: (25, true) :: (26, true) :: (27, true) :: (28, false) :: (29, true) :: (30, true) :: []) (by kernel_rfl) (by kernel_rfl) (by kernel_rfl) (by decide) (fun _ _ _ _ _ h => h) (fun hHeld => ?_)
    iterate 19 (first | (refine seq_take (v := ?_) rfl ?_ ?_ ?_; rotate_left 1; rfl; (focus (intro wS hSw; have hk := below_rule hSw; go_simp; first | done | with_reducible rfl)); (try simp only [Act.put, List.setIfInBounds_toArray, List.set_cons_zero, List.set_cons_succ])) | (refine seq_skip rfl ?_ ?_; rfl; (try simp only [Act.put, List.setIfInBounds_toArray, List.set_cons_zero, List.set_cons_succ])))
    refine seq_run rfl (fun K hK => ?_)
    go_simp
    go_at_call 39
    refine (ccells_any t s so d N _ HLA.out).mono ?_
    rintro r w9 ⟨rfl, hb'⟩
    (try go_wp2_with fail)
    refine hK.out _ _ (below_step hHeld hb') ?_
    replace hHeld := below_step hHeld hb'
    clear hb' hK K
    intro _
    (try simp only [Act.put, List.setIfInBounds_toArray, List.set_cons_zero, List.set_cons_succ])
    iterate 8 (first | (refine seq_take (v := ?_) rfl ?_ ?_ ?_; rotate_left 1; rfl; (focus (intro wS hSw; have hk := below_rule hSw; go_simp; first | done | with_reducible rfl)); (try simp only [Act.put, List.setIfInBounds_toArray, List.set_cons_zero, List.set_cons_succ])) | (refine seq_skip rfl ?_ ?_; rfl; (try simp only [Act.put, List.setIfInBounds_toArray, List.set_cons_zero, List.set_cons_succ])))
    refine seq_run rfl (fun K hK => ?_)
    go_simp
    go_at_call 49
    refine (llast_any _ A n cap tb off L e.cell (HL.out.later hHeld) hn1).mono ?_
    rintro r w9 ⟨rfl, hb'⟩
    rw [HLA5.out]
    (try go_wp2_with fail)
    refine hK.out _ _ (below_step hHeld hb') ?_
    replace hHeld := below_step hHeld hb'
    clear hb' hK K
    intro _
    (try simp only [Act.put, List.setIfInBounds_toArray, List.set_cons_zero, List.set_cons_succ])
    iterate 2 (first | (refine seq_take (v := ?_) rfl ?_ ?_ ?_; rotate_left 1; rfl; (focus (intro wS hSw; have hk := below_rule hSw; go_simp; first | done | with_reducible rfl)); (try simp only [Act.put, List.setIfInBounds_toArray, List.set_cons_zero, List.set_cons_succ])) | (refine seq_skip rfl ?_ ?_; rfl; (try simp only [Act.put, List.setIfInBounds_toArray, List.set_cons_zero, List.set_cons_succ])))
    refine seq_done ?_
    go_wp2_with fail
    go_ret
    exact ⟨rfl, below_step HB0.out hHeld⟩
end
end Go.Proofs.YtpbpkmmhdfahnaaGreat
