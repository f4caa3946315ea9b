/-
  The contract of the law's own 'may': whether an event may be behind others. No condition but that numbers fit their kinds.
-/
import Derived.Test.YtpbpkmmhdfahnaaGreatLawMay
import Derived.Test.YtpbpkmmhdfahnaaGreatAMem
import Derived.Test.YtpbpkmmhdfahnaaGreatAKit
namespace Go.Proofs.YtpbpkmmhdfahnaaGreat
open Go.RowKit
set_option linter.unusedVariables false

section
variable {w : World} {t s so d : Int} {N n cap tb off : Nat} {A : Option Addr} {L : List Ev} {e : Ev}
set_option maxRecDepth 100000 in
set_option maxHeartbeats 16000000 in
theorem may_wordA (h : MayAt w t s so d N A n cap tb off L e) (c1 : 0 ≤ e.who) (c2 : e.who < t) (c3 : 0 ≤ e.cell) (c4 : e.cell < 2 * N + 2 * t) (c5 : lastE L e.cell = e.old) (c6 : e.cell < N) (bo : Bool) (hb : bo = true ↔ MayW s e) (k2 : e.op ≠ 2) :
    Calls Tryz.prog 27 #[cf t s so d, .slice A n cap, e.v] w fun r w' => r = .returned (.bool bo) ∧ Below w.heap.size w w' := by
  obtain ⟨a0, ha0⟩ : ∃ z, e.old % 4 = z := ⟨_, rfl⟩
  have HA0 := Lib.hid ha0
  obtain ⟨a1, ha1⟩ : ∃ z, e.old / 4 % 2 = z := ⟨_, rfl⟩
  have HA1 := Lib.hid ha1
  obtain ⟨a2, ha2⟩ : ∃ z, e.old / 8 % 8192 = z := ⟨_, rfl⟩
  have HA2 := Lib.hid ha2
  obtain ⟨a3, ha3⟩ : ∃ z, e.old / 65536 % 16777216 = z := ⟨_, rfl⟩
  have HA3 := Lib.hid ha3
  obtain ⟨a4, ha4⟩ : ∃ z, e.old / 1099511627776 = z := ⟨_, rfl⟩
  have HA4 := Lib.hid ha4
  obtain ⟨b0, hb0⟩ : ∃ z, e.new % 4 = z := ⟨_, rfl⟩
  have HN0 := Lib.hid hb0
  obtain ⟨b1, hb1⟩ : ∃ z, e.new / 4 % 2 = z := ⟨_, rfl⟩
  have HN1 := Lib.hid hb1
  obtain ⟨b2, hb2⟩ : ∃ z, e.new / 8 % 8192 = z := ⟨_, rfl⟩
  have HN2 := Lib.hid hb2
  obtain ⟨b3, hb3⟩ : ∃ z, e.new / 65536 % 16777216 = z := ⟨_, rfl⟩
  have HN3 := Lib.hid hb3
  obtain ⟨b4, hb4⟩ : ∃ z, e.new / 1099511627776 = z := ⟨_, rfl⟩
  have HN4 := Lib.hid hb4
  have K2 := Lib.hid k2
  clear k2
  have ha2r : 0 ≤ a2 ∧ a2 ≤ 8191 := by omega
  have hb3r : 0 ≤ b3 := by omega
  unfold MayW at hb
  simp only [ha0, ha1, ha2, ha3, ha4, hb0, hb1, hb2, hb3, hb4] at hb
  have HBB := Lib.hid hb
  clear hb
  clear ha0 ha1 ha2 ha3 ha4 hb0 hb1 hb2 hb3 hb4
  obtain ⟨hl, hrow, hn1, hfe⟩ := h
  have HLA := Lib.hid hl
  have n1 := hl.n1
  have n2 := hl.n2
  have t1 := hl.t1
  have t2 := hl.t2
  have s1 := hl.s1
  have s2 := hl.s2
  have hb0 := below_new (below_new (Below.refl w.heap.size w) (.cells #[i64 t, i64 s, i64 so, i64 d] 29)) (e.obj 40)
  have HB0 := Lib.hid hb0
  have HC : Hid (IsObj ((w.alloc (.cells #[i64 t, i64 s, i64 so, i64 d] 29)).alloc (e.obj 40)) w.heap.size [i64 t, i64 s, i64 so, i64 d]) := Lib.hid ((IsObj.made w [i64 t, i64 s, i64 so, i64 d] 29).later (below_new (Below.refl _ _) _))
  have HO : Hid (IsObj ((w.alloc (.cells #[i64 t, i64 s, i64 so, i64 d] 29)).alloc (e.obj 40)) (w.heap.size + 1) [i64 e.who, i64 e.op, i64 e.cell, u64 e.old, u64 e.new, .bool e.ok]) := Lib.hid (by have h := IsObj.made (w.alloc (.cells #[i64 t, i64 s, i64 so, i64 d] 29)) [i64 e.who, i64 e.op, i64 e.cell, u64 e.old, u64 e.new, .bool e.ok] 40; simp only [World.size_alloc] at h; exact h)
  have HL := Lib.hid (hrow.later hb0)
  have HFE := Lib.hid hfe
  have hs0 : w.heap.size + 1 < ((w.alloc (.cells #[i64 t, i64 s, i64 so, i64 d] 29)).alloc (e.obj 40)).heap.size := HO.out.lt
  clear hl hrow hb0 hfe
  go_enter Tryz.func27, Tryz.ntmps27
  have p1 : ¬ e.who < 0 := by omega
  have p1' : decide (e.who < 0) = false := decide_eq_false p1
  have p2 : ¬ t ≤ e.who := by omega
  have p2' : decide (t ≤ e.who) = false := decide_eq_false p2
  have p3 : ¬ e.cell < 0 := by omega
  have p3' : decide (e.cell < 0) = false := decide_eq_false p3
  have p4 : ¬ 2 * (N : Int) + 2 * t ≤ e.cell := by omega
  have p4' : decide (2 * (N : Int) + 2 * t ≤ e.cell) = false := decide_eq_false p4
  have HOLD := Lib.hid c5
  clear c5
  go_wp2_with fail
  generalize (w.alloc (.cells #[i64 t, i64 s, i64 so, i64 d] 29)).alloc (e.obj 40) = w1 at HC HO HL HB0 hs0 ⊢
  generalize w.heap.size = b at HC HO hs0 ⊢
  obtain ⟨q0, q1, q2, q3⟩ : _ ∧ _ ∧ _ ∧ _ := ⟨HC.out.at' 0 _ rfl, HC.out.at' 1 _ rfl, HC.out.at' 2 _ rfl, HC.out.at' 3 _ rfl⟩
  obtain ⟨e0, e1, e2, e3, e4, e5⟩ : _ ∧ _ ∧ _ ∧ _ ∧ _ ∧ _ := ⟨HO.out.at' 0 _ rfl, HO.out.at' 1 _ rfl, HO.out.at' 2 _ rfl, HO.out.at' 3 _ rfl, HO.out.at' 4 _ rfl, HO.out.at' 5 _ rfl⟩
  refine wp_region_seq ((0, true) :: (1, true) :: (2, true) :: (3, true) :: (4, true) :: (5, true) :: (6, true) :: (7, true) :: (8, true) :: (9, true) :: (10, true) :: (11, true) :: (12, true) :: (13, true) :: (14, true) :: (15, true) :: (16, true) :: (17, true) :: (18, true) :: (19, false) :: (20, true) :: (21, true) :: (22, true) :: (23, true) :: (24, true) :: (25, true) :: (26, true) :: (27, true) :: (28, false) :: (29, true) :: (30, true) :: []) (by kernel_rfl) (by kernel_rfl) (by kernel_rfl) (by decide) (fun _ _ _ _ _ h => h) (fun hHeld => ?_)
  iterate 19 (first | (refine seq_take (v := ?_) rfl ?_ ?_ ?_; rotate_left 1; rfl; (focus (intro wS hSw; have hk := below_rule hSw; go_simp; first | done | with_reducible rfl)); (try simp only [Act.put, List.setIfInBounds_toArray, List.set_cons_zero, List.set_cons_succ])) | (refine seq_skip rfl ?_ ?_; rfl; (try simp only [Act.put, List.setIfInBounds_toArray, List.set_cons_zero, List.set_cons_succ])))
  refine seq_run rfl (fun K hK => ?_)
  go_simp
  go_at_call 39
  refine (ccells_any t s so d N _ HLA.out).mono ?_
  rintro r w9 ⟨rfl, hb'⟩
  (try go_wp2_with fail)
  refine hK.out _ _ (below_step hHeld hb') ?_
  replace hHeld := below_step hHeld hb'
  clear hb' hK K
  intro _
  (try simp only [Act.put, List.setIfInBounds_toArray, List.set_cons_zero, List.set_cons_succ])
  iterate 8 (first | (refine seq_take (v := ?_) rfl ?_ ?_ ?_; rotate_left 1; rfl; (focus (intro wS hSw; have hk := below_rule hSw; go_simp; first | done | with_reducible rfl)); (try simp only [Act.put, List.setIfInBounds_toArray, List.set_cons_zero, List.set_cons_succ])) | (refine seq_skip rfl ?_ ?_; rfl; (try simp only [Act.put, List.setIfInBounds_toArray, List.set_cons_zero, List.set_cons_succ])))
  refine seq_run rfl (fun K hK => ?_)
  go_simp
  go_at_call 49
  refine (llast_any _ A n cap tb off L e.cell (HL.out.later hHeld) hn1).mono ?_
  rintro r w9 ⟨rfl, hb'⟩
  rw [HOLD.out]
  (try go_wp2_with fail)
  refine hK.out _ _ (below_step hHeld hb') ?_
  replace hHeld := below_step hHeld hb'
  clear hb' hK K
  intro _
  (try simp only [Act.put, List.setIfInBounds_toArray, List.set_cons_zero, List.set_cons_succ])
  iterate 2 (first | (refine seq_take (v := ?_) rfl ?_ ?_ ?_; rotate_left 1; rfl; (focus (intro wS hSw; have hk := below_rule hSw; go_simp; first | done | with_reducible rfl)); (try simp only [Act.put, List.setIfInBounds_toArray, List.set_cons_zero, List.set_cons_succ])) | (refine seq_skip rfl ?_ ?_; rfl; (try simp only [Act.put, List.setIfInBounds_toArray, List.set_cons_zero, List.set_cons_succ])))
  refine seq_done ?_
  have HB1 := Lib.hid (below_step HB0.out hHeld)
  have HC1 := Lib.hid (HC.out.later hHeld)
  have HO1 := Lib.hid (HO.out.later hHeld)
  have HL1 := Lib.hid (HL.out.later hHeld)
  clear hHeld q0 q1 q2 q3 e0 e1 e2 e3 e4 e5
  obtain ⟨q0, q1, q2, q3⟩ : _ ∧ _ ∧ _ ∧ _ := ⟨HC1.out.at' 0 _ rfl, HC1.out.at' 1 _ rfl, HC1.out.at' 2 _ rfl, HC1.out.at' 3 _ rfl⟩
  obtain ⟨e0, e1, e2, e3, e4, e5⟩ : _ ∧ _ ∧ _ ∧ _ ∧ _ ∧ _ := ⟨HO1.out.at' 0 _ rfl, HO1.out.at' 1 _ rfl, HO1.out.at' 2 _ rfl, HO1.out.at' 3 _ rfl, HO1.out.at' 4 _ rfl, HO1.out.at' 5 _ rfl⟩
  go_wp2_with fail
  refine (call_any t s so d N _ HLA.out).mono ?_
  rintro r w2 ⟨rfl, hb⟩
  have HB2 := Lib.hid (below_step HB1.out hb)
  have HC2 := Lib.hid (HC1.out.later hb)
  have HO2 := Lib.hid (HO1.out.later hb)
  have HL2 := Lib.hid (HL1.out.later hb)
  clear hb q0 q1 q2 q3 e0 e1 e2 e3 e4 e5
  obtain ⟨q0, q1, q2, q3⟩ : _ ∧ _ ∧ _ ∧ _ := ⟨HC2.out.at' 0 _ rfl, HC2.out.at' 1 _ rfl, HC2.out.at' 2 _ rfl, HC2.out.at' 3 _ rfl⟩
  obtain ⟨e0, e1, e2, e3, e4, e5⟩ : _ ∧ _ ∧ _ ∧ _ ∧ _ ∧ _ := ⟨HO2.out.at' 0 _ rfl, HO2.out.at' 1 _ rfl, HO2.out.at' 2 _ rfl, HO2.out.at' 3 _ rfl, HO2.out.at' 4 _ rfl, HO2.out.at' 5 _ rfl⟩
  have x1 : e.cell < (N : Int) := by omega
  have x1' : decide (e.cell < (N : Int)) = true := decide_eq_true x1
  have hsn : ¬ s = 0 := by omega
  have y6 : e.cell.tdiv s = e.cell / s := Int.tdiv_eq_ediv_of_nonneg (by omega)
  have y7 : IntKind.i64.wrap (e.cell / s) = e.cell / s := IntWalk.i64_in _ (by have := Int.ediv_nonneg (show 0 ≤ e.cell by omega) (show 0 ≤ s by omega); have := Int.ediv_le_self (b := s) (show 0 ≤ e.cell by omega); omega)
  have y8 : IntKind.i64.wrap (a2 + 1) = a2 + 1 := IntWalk.i64_in _ (by omega)
  go_wp2_with fail
  refine (unpack_any e.old _ HFE.out.o0 HFE.out.o1).mono ?_
  rintro r w3 ⟨rfl, hb⟩
  rw [HA0.out, HA1.out, HA2.out, HA3.out, HA4.out]
  have HC3 := Lib.hid (HC2.out.later hb)
  have HO3 := Lib.hid (HO2.out.later hb)
  have HL3 := Lib.hid (HL2.out.later hb)
  have HB3 := Lib.hid (below_step HB2.out hb)
  clear hb q0 q1 q2 q3 e0 e1 e2 e3 e4 e5
  have hwb4 : w3.heap.size < (w3.alloc (.cells #[i64 a0, i64 a1, i64 a2, i64 a3, i64 a4] 61)).heap.size := by simp
  have HP4 := Lib.hid (IsObj.made w3 [i64 a0, i64 a1, i64 a2, i64 a3, i64 a4] 61)
  have hb := below_new (Below.refl w3.heap.size w3) (.cells #[i64 a0, i64 a1, i64 a2, i64 a3, i64 a4] 61)
  have HC4 := Lib.hid (HC3.out.later hb)
  have HO4 := Lib.hid (HO3.out.later hb)
  have HL4 := Lib.hid (HL3.out.later hb)
  have HB4 := Lib.hid (below_step HB3.out hb)
  clear hb
  obtain ⟨q0, q1, q2, q3⟩ : _ ∧ _ ∧ _ ∧ _ := ⟨HC4.out.at' 0 _ rfl, HC4.out.at' 1 _ rfl, HC4.out.at' 2 _ rfl, HC4.out.at' 3 _ rfl⟩
  obtain ⟨e0, e1, e2, e3, e4, e5⟩ : _ ∧ _ ∧ _ ∧ _ ∧ _ ∧ _ := ⟨HO4.out.at' 0 _ rfl, HO4.out.at' 1 _ rfl, HO4.out.at' 2 _ rfl, HO4.out.at' 3 _ rfl, HO4.out.at' 4 _ rfl, HO4.out.at' 5 _ rfl⟩
  go_wp2_with fail
  clear q0 q1 q2 q3 e0 e1 e2 e3 e4 e5
  generalize w3.alloc (.cells #[i64 a0, i64 a1, i64 a2, i64 a3, i64 a4] 61) = w4 at HP4 HC4 HO4 HL4 HB4 hwb4 ⊢
  generalize w3.heap.size = b4x at HP4 hwb4 ⊢
  refine (unpack_any e.new _ HFE.out.n0 HFE.out.n1).mono ?_
  rintro r w5 ⟨rfl, hb⟩
  rw [HN0.out, HN1.out, HN2.out, HN3.out, HN4.out]
  have HC5 := Lib.hid (HC4.out.later hb)
  have HO5 := Lib.hid (HO4.out.later hb)
  have HL5 := Lib.hid (HL4.out.later hb)
  have HB5 := Lib.hid (below_step HB4.out hb)
  have HP5 := Lib.hid (HP4.out.later hb)
  clear hb
  have hwb6 : w5.heap.size < (w5.alloc (.cells #[i64 b0, i64 b1, i64 b2, i64 b3, i64 b4] 61)).heap.size := by simp
  have HQ6 := Lib.hid (IsObj.made w5 [i64 b0, i64 b1, i64 b2, i64 b3, i64 b4] 61)
  have hb := below_new (Below.refl w5.heap.size w5) (.cells #[i64 b0, i64 b1, i64 b2, i64 b3, i64 b4] 61)
  have HC6 := Lib.hid (HC5.out.later hb)
  have HO6 := Lib.hid (HO5.out.later hb)
  have HL6 := Lib.hid (HL5.out.later hb)
  have HB6 := Lib.hid (below_step HB5.out hb)
  have HP6 := Lib.hid (HP5.out.later hb)
  clear hb
  obtain ⟨q0, q1, q2, q3⟩ : _ ∧ _ ∧ _ ∧ _ := ⟨HC6.out.at' 0 _ rfl, HC6.out.at' 1 _ rfl, HC6.out.at' 2 _ rfl, HC6.out.at' 3 _ rfl⟩
  obtain ⟨e0, e1, e2, e3, e4, e5⟩ : _ ∧ _ ∧ _ ∧ _ ∧ _ ∧ _ := ⟨HO6.out.at' 0 _ rfl, HO6.out.at' 1 _ rfl, HO6.out.at' 2 _ rfl, HO6.out.at' 3 _ rfl, HO6.out.at' 4 _ rfl, HO6.out.at' 5 _ rfl⟩
  go_wp2_with fail
  clear q0 q1 q2 q3 e0 e1 e2 e3 e4 e5
  generalize w5.alloc (.cells #[i64 b0, i64 b1, i64 b2, i64 b3, i64 b4] 61) = w6 at HQ6 HP6 HC6 HO6 HL6 HB6 hwb6 ⊢
  generalize w5.heap.size = b6x at HQ6 hwb6 ⊢
  obtain ⟨q0, q1, q2, q3⟩ : _ ∧ _ ∧ _ ∧ _ := ⟨HC6.out.at' 0 _ rfl, HC6.out.at' 1 _ rfl, HC6.out.at' 2 _ rfl, HC6.out.at' 3 _ rfl⟩
  obtain ⟨e0, e1, e2, e3, e4, e5⟩ : _ ∧ _ ∧ _ ∧ _ ∧ _ ∧ _ := ⟨HO6.out.at' 0 _ rfl, HO6.out.at' 1 _ rfl, HO6.out.at' 2 _ rfl, HO6.out.at' 3 _ rfl, HO6.out.at' 4 _ rfl, HO6.out.at' 5 _ rfl⟩
  obtain ⟨u0, u1, u2, u3, u4⟩ : _ ∧ _ ∧ _ ∧ _ ∧ _ := ⟨HP6.out.at' 0 _ rfl, HP6.out.at' 1 _ rfl, HP6.out.at' 2 _ rfl, HP6.out.at' 3 _ rfl, HP6.out.at' 4 _ rfl⟩
  obtain ⟨v0, v1, v2, v3, v4⟩ : _ ∧ _ ∧ _ ∧ _ ∧ _ := ⟨HQ6.out.at' 0 _ rfl, HQ6.out.at' 1 _ rfl, HQ6.out.at' 2 _ rfl, HQ6.out.at' 3 _ rfl, HQ6.out.at' 4 _ rfl⟩
  have hb4l := HP6.out.lt
  refine wp_region_seq ((0, true) :: (1, true) :: (2, true) :: (3, true) :: (4, true) :: (5, true) :: (6, true) :: (7, true) :: (8, true) :: []) (by kernel_rfl) (by kernel_rfl) (by kernel_rfl) (by decide) (fun _ _ _ _ _ h => h) (fun hHeld => ?_)
  iterate 9 (first | (refine seq_take (v := ?_) rfl ?_ ?_ ?_; rotate_left 1; rfl; (focus (intro wS hSw; have hk := below_rule hSw; go_simp; first | done | with_reducible rfl)); (try simp only [Act.put, List.setIfInBounds_toArray, List.set_cons_zero, List.set_cons_succ])) | (refine seq_skip rfl ?_ ?_; rfl; (try simp only [Act.put, List.setIfInBounds_toArray, List.set_cons_zero, List.set_cons_succ])))
  refine seq_done ?_
  have HB7 := Lib.hid (below_step HB6.out hHeld)
  have HC7 := Lib.hid (HC6.out.later hHeld)
  have HO7 := Lib.hid (HO6.out.later hHeld)
  have HP7 := Lib.hid (HP6.out.later hHeld)
  have HQ7 := Lib.hid (HQ6.out.later hHeld)
  clear hHeld q0 q1 q2 q3 e0 e1 e2 e3 e4 e5 u0 u1 u2 u3 u4 v0 v1 v2 v3 v4 hwb6 hwb4 hb4l
  generalize w6.drew = w7 at HB7 HC7 HO7 HP7 HQ7 ⊢
  generalize b + 1 = ob at HO7 ⊢
  obtain ⟨q0, q1, q2, q3⟩ : _ ∧ _ ∧ _ ∧ _ := ⟨HC7.out.at' 0 _ rfl, HC7.out.at' 1 _ rfl, HC7.out.at' 2 _ rfl, HC7.out.at' 3 _ rfl⟩
  obtain ⟨e0, e1, e2, e3, e4, e5⟩ : _ ∧ _ ∧ _ ∧ _ ∧ _ ∧ _ := ⟨HO7.out.at' 0 _ rfl, HO7.out.at' 1 _ rfl, HO7.out.at' 2 _ rfl, HO7.out.at' 3 _ rfl, HO7.out.at' 4 _ rfl, HO7.out.at' 5 _ rfl⟩
  obtain ⟨u0, u1, u2, u3, u4⟩ : _ ∧ _ ∧ _ ∧ _ ∧ _ := ⟨HP7.out.at' 0 _ rfl, HP7.out.at' 1 _ rfl, HP7.out.at' 2 _ rfl, HP7.out.at' 3 _ rfl, HP7.out.at' 4 _ rfl⟩
  obtain ⟨v0, v1, v2, v3, v4⟩ : _ ∧ _ ∧ _ ∧ _ ∧ _ := ⟨HQ7.out.at' 0 _ rfl, HQ7.out.at' 1 _ rfl, HQ7.out.at' 2 _ rfl, HQ7.out.at' 3 _ rfl, HQ7.out.at' 4 _ rfl⟩
  have hb4l := HP7.out.lt
  have hb6l := HQ7.out.lt
  have hbol := HO7.out.lt
  have k2 := K2.out
  rcases (show ((e.op = 0)) ∨ ((e.op = 1) ∧ (e.who ≠ e.cell / s)) ∨ ((e.op = 1) ∧ (e.who = e.cell / s) ∧ (a0 = 1)) ∨ ((e.op = 1) ∧ (e.who = e.cell / s) ∧ (a0 ≠ 1) ∧ (b0 ≠ 1)) ∨ ((e.op = 1) ∧ (e.who = e.cell / s) ∧ (a0 ≠ 1) ∧ (b0 = 1) ∧ (b2 ≠ a2 + 1)) ∨ ((e.op = 1) ∧ (e.who = e.cell / s) ∧ (a0 ≠ 1) ∧ (b0 = 1) ∧ (b2 = a2 + 1) ∧ (¬ (b3 ≤ b4 ∧ b4 < 16777215))) ∨ ((e.op = 1) ∧ (e.who = e.cell / s) ∧ (a0 ≠ 1) ∧ (b0 = 1) ∧ (b2 = a2 + 1) ∧ (b3 ≤ b4 ∧ b4 < 16777215)) ∨ ((e.op ≠ 0) ∧ (e.op ≠ 1) ∧ (e.op ≠ 2)) from by
    by_cases k0 : e.op = 0
    · exact .inl k0
    by_cases k1 : e.op = 1
    · by_cases m1 : e.who = e.cell / s <;> by_cases m2 : a0 = 1 <;> by_cases m3 : b0 = 1 <;> by_cases m4 : b2 = a2 + 1 <;> by_cases m5 : b3 ≤ b4 ∧ b4 < 16777215 <;> simp [k1, m1, m2, m3, m4, m5]
    · simp [k0, k1, k2]) with gop | ⟨gop, g1⟩ | ⟨gop, g1, g2⟩ | ⟨gop, g1, g2, g3⟩ | ⟨gop, g1, g2, g3, g4⟩ | ⟨gop, g1, g2, g3, g4, g5⟩ | ⟨gop, g1, g2, g3, g4, g5⟩ | ⟨gn0, gn1, gn2⟩
  · have hb := HBB.out
    obtain rfl : bo = true := hb.2 (.inl gop)
    have z0 : (e.op == 0) = true := by simp [gop]
    have z1 : (e.op == 1) = false := by simp [gop]
    have z2 : (e.op == 2) = false := by simp [gop]
    have z3 : (e.op == 3) = false := by simp [gop]
    clear hb gop
    go_wp2_with fail
    go_ret
    exact ⟨rfl, below_new (below_new HB7.out _) _⟩
  · have hb := HBB.out
    obtain rfl : bo = false := by
      cases bo with
      | false => rfl
      | true =>
        rcases hb.1 rfl with q | ⟨q1, q2, q3, q4, q5, q6, q7⟩ | ⟨q1, q2 | ⟨q2, q3, q4, q5, q6, q7⟩⟩
        · omega
        · exact absurd q2 g1
        · omega
        · omega
    have z0 : (e.op == 0) = false := by simp [gop]
    have z1 : (e.op == 1) = true := by simp [gop]
    have z2 : (e.op == 2) = false := by simp [gop]
    have z3 : (e.op == 3) = false := by simp [gop]
    have ow : (e.who == e.cell / s) = false := beq_false_of_ne g1
    clear hb gop g1
    go_wp2_with fail
    go_ret
    exact ⟨rfl, below_new (below_new HB7.out _) _⟩
  · have hb := HBB.out
    obtain rfl : bo = false := by
      cases bo with
      | false => rfl
      | true =>
        rcases hb.1 rfl with q | ⟨q1, q2, q3, q4, q5, q6, q7⟩ | ⟨q1, q2 | ⟨q2, q3, q4, q5, q6, q7⟩⟩
        · omega
        · omega
        · omega
        · omega
    have z0 : (e.op == 0) = false := by simp [gop]
    have z1 : (e.op == 1) = true := by simp [gop]
    have z2 : (e.op == 2) = false := by simp [gop]
    have z3 : (e.op == 3) = false := by simp [gop]
    have ow : (e.who == e.cell / s) = true := beq_iff_eq.2 g1
    have os : (a0 != 1) = false := by simp [g2]
    clear hb gop g1 g2
    go_wp2_with fail
    go_ret
    exact ⟨rfl, below_new (below_new HB7.out _) _⟩
  · have hb := HBB.out
    obtain rfl : bo = false := by
      cases bo with
      | false => rfl
      | true =>
        rcases hb.1 rfl with q | ⟨q1, q2, q3, q4, q5, q6, q7⟩ | ⟨q1, q2 | ⟨q2, q3, q4, q5, q6, q7⟩⟩
        · omega
        · omega
        · omega
        · omega
    have z0 : (e.op == 0) = false := by simp [gop]
    have z1 : (e.op == 1) = true := by simp [gop]
    have z2 : (e.op == 2) = false := by simp [gop]
    have z3 : (e.op == 3) = false := by simp [gop]
    have ow : (e.who == e.cell / s) = true := beq_iff_eq.2 g1
    have os : (a0 != 1) = true := bne_iff_ne.2 g2
    have fa : (b0 == 1) = false := beq_false_of_ne g3
    clear hb gop g1 g2 g3
    go_wp2_with fail
    go_ret
    exact ⟨rfl, below_new (below_new HB7.out _) _⟩
  · have hb := HBB.out
    obtain rfl : bo = false := by
      cases bo with
      | false => rfl
      | true =>
        rcases hb.1 rfl with q | ⟨q1, q2, q3, q4, q5, q6, q7⟩ | ⟨q1, q2 | ⟨q2, q3, q4, q5, q6, q7⟩⟩
        · omega
        · omega
        · omega
        · omega
    have z0 : (e.op == 0) = false := by simp [gop]
    have z1 : (e.op == 1) = true := by simp [gop]
    have z2 : (e.op == 2) = false := by simp [gop]
    have z3 : (e.op == 3) = false := by simp [gop]
    have ow : (e.who == e.cell / s) = true := beq_iff_eq.2 g1
    have os : (a0 != 1) = true := bne_iff_ne.2 g2
    have fa : (b0 == 1) = true := beq_iff_eq.2 g3
    have fb : (b2 == a2 + 1) = false := beq_false_of_ne g4
    clear hb gop g1 g2 g3 g4
    go_wp2_with fail
    go_ret
    exact ⟨rfl, below_new (below_new HB7.out _) _⟩
  · have hb := HBB.out
    obtain rfl : bo = false := by
      cases bo with
      | false => rfl
      | true =>
        rcases hb.1 rfl with q | ⟨q1, q2, q3, q4, q5, q6, q7⟩ | ⟨q1, q2 | ⟨q2, q3, q4, q5, q6, q7⟩⟩
        · omega
        · omega
        · omega
        · omega
    have z0 : (e.op == 0) = false := by simp [gop]
    have z1 : (e.op == 1) = true := by simp [gop]
    have z2 : (e.op == 2) = false := by simp [gop]
    have z3 : (e.op == 3) = false := by simp [gop]
    have ow : (e.who == e.cell / s) = true := beq_iff_eq.2 g1
    have os : (a0 != 1) = true := bne_iff_ne.2 g2
    have fa : (b0 == 1) = true := beq_iff_eq.2 g3
    have fb : (b2 == a2 + 1) = true := beq_iff_eq.2 g4
    have HR := Lib.hid (show rightB b3 b4 = false from decide_eq_false (fun hh => g5 ⟨hh.2.1, hh.2.2⟩))
    clear hb gop g1 g2 g3 g4 g5
    go_wp2_with fail
    refine (right_any b3 b4 _).mono ?_
    rintro r w8 ⟨rfl, hb⟩
    rw [HR.out]
    have HB8 := Lib.hid (below_step (below_new (below_new HB7.out _) _) hb)
    clear hb
    go_wp2_with fail
    go_ret
    exact ⟨rfl, HB8.out⟩
  · have hb := HBB.out
    obtain rfl : bo = true := hb.2 (.inr (.inl (by omega)))
    have z0 : (e.op == 0) = false := by simp [gop]
    have z1 : (e.op == 1) = true := by simp [gop]
    have z2 : (e.op == 2) = false := by simp [gop]
    have z3 : (e.op == 3) = false := by simp [gop]
    have ow : (e.who == e.cell / s) = true := beq_iff_eq.2 g1
    have os : (a0 != 1) = true := bne_iff_ne.2 g2
    have fa : (b0 == 1) = true := beq_iff_eq.2 g3
    have fb : (b2 == a2 + 1) = true := beq_iff_eq.2 g4
    have HR := Lib.hid (show rightB b3 b4 = true from decide_eq_true ⟨hb3r, g5.1, g5.2⟩)
    clear hb gop g1 g2 g3 g4 g5
    go_wp2_with fail
    refine (right_any b3 b4 _).mono ?_
    rintro r w8 ⟨rfl, hb⟩
    rw [HR.out]
    have HB8 := Lib.hid (below_step (below_new (below_new HB7.out _) _) hb)
    clear hb
    go_wp2_with fail
    go_ret
    exact ⟨rfl, HB8.out⟩
  · have hb := HBB.out
    obtain rfl : bo = false := by
      cases bo with
      | false => rfl
      | true =>
        rcases hb.1 rfl with q | ⟨q1, q2, q3, q4, q5, q6, q7⟩ | ⟨q1, q2 | ⟨q2, q3, q4, q5, q6, q7⟩⟩
        · omega
        · omega
        · omega
        · omega
    have z0 : (e.op == 0) = false := beq_false_of_ne gn0
    have z1 : (e.op == 1) = false := beq_false_of_ne gn1
    have z2 : (e.op == 2) = false := beq_false_of_ne gn2
    obtain ⟨zz3, z3⟩ : ∃ z, (e.op == 3) = z := ⟨_, rfl⟩
    clear hb gn0 gn1 gn2
    go_wp2_with fail
    go_ret
    exact ⟨rfl, below_new (below_new HB7.out _) _⟩

end
end Go.Proofs.YtpbpkmmhdfahnaaGreat
