/-
  The contract of the law's own 'may': whether an event may be behind others. No condition but that numbers fit their kinds.
-/
import Derived.Test.YtpbpkmmhdfahnaaGreatLawMay
import Derived.Test.YtpbpkmmhdfahnaaGreatAMem
import Derived.Test.YtpbpkmmhdfahnaaGreatAKit
namespace Go.Proofs.YtpbpkmmhdfahnaaGreat
open Go.RowKit
set_option linter.unusedVariables false

theorem ldV_form (o : Option Int) : ∃ a bb c dd f k, ldV o = .tuple #[wd a bb c dd f, .bool k] := by
  cases o with
  | none => exact ⟨0, 0, 0, 0, 0, false, rfl⟩
  | some r => exact ⟨_, _, _, _, _, true, rfl⟩
section
variable {w : World} {t s so d : Int} {N n cap tb off : Nat} {A : Option Addr} {L : List Ev} {e : Ev}
set_option maxRecDepth 100000 in
set_option maxHeartbeats 16000000 in
theorem may_value (h : MayAt w t s so d N A n cap tb off L e) (c1 : 0 ≤ e.who) (c2 : e.who < t) (c3 : 0 ≤ e.cell) (c4 : e.cell < 2 * N + 2 * t) (c5 : lastE L e.cell = e.old) (c6 : N ≤ e.cell) (c7 : e.cell < 2 * N) (bo : Bool) (hb : bo = true ↔ MayV N s (lastE L) (loadE L) e) :
    Calls Tryz.prog 27 #[cf t s so d, .slice A n cap, e.v] w fun r w' => r = .returned (.bool bo) ∧ Below w.heap.size w w' := by
  unfold MayV at hb
  have HBB := Lib.hid hb
  clear hb
  obtain ⟨x, hx⟩ : ∃ x, lastE L (e.cell - (N : Int)) = x := ⟨_, rfl⟩
  have HX := Lib.hid hx
  obtain ⟨a, bb, c, dd, f, k, hld⟩ := ldV_form (loadE L e.who (e.cell - (N : Int)))
  have HLD := Lib.hid hld
  obtain ⟨hh, hhe⟩ : ∃ x, lastE L (2 * (N : Int) + e.who) = x := ⟨_, rfl⟩
  have HHZ := Lib.hid hhe
  clear hx hld hhe
  obtain ⟨hl, hrow, hn1, hfe⟩ := h
  have HLA := Lib.hid hl
  have n1 := hl.n1
  have n2 := hl.n2
  have t1 := hl.t1
  have t2 := hl.t2
  have s1 := hl.s1
  have s2 := hl.s2
  have hb0 := below_new (below_new (Below.refl w.heap.size w) (.cells #[i64 t, i64 s, i64 so, i64 d] 29)) (e.obj 40)
  have HB0 := Lib.hid hb0
  have HC : Hid (IsObj ((w.alloc (.cells #[i64 t, i64 s, i64 so, i64 d] 29)).alloc (e.obj 40)) w.heap.size [i64 t, i64 s, i64 so, i64 d]) := Lib.hid ((IsObj.made w [i64 t, i64 s, i64 so, i64 d] 29).later (below_new (Below.refl _ _) _))
  have HO : Hid (IsObj ((w.alloc (.cells #[i64 t, i64 s, i64 so, i64 d] 29)).alloc (e.obj 40)) (w.heap.size + 1) [i64 e.who, i64 e.op, i64 e.cell, u64 e.old, u64 e.new, .bool e.ok]) := Lib.hid (by have h := IsObj.made (w.alloc (.cells #[i64 t, i64 s, i64 so, i64 d] 29)) [i64 e.who, i64 e.op, i64 e.cell, u64 e.old, u64 e.new, .bool e.ok] 40; simp only [World.size_alloc] at h; exact h)
  have HL := Lib.hid (hrow.later hb0)
  have HFE := Lib.hid hfe
  have hs0 : w.heap.size + 1 < ((w.alloc (.cells #[i64 t, i64 s, i64 so, i64 d] 29)).alloc (e.obj 40)).heap.size := HO.out.lt
  clear hl hrow hb0 hfe
  go_enter Tryz.func27, Tryz.ntmps27
  have p1 : ¬ e.who < 0 := by omega
  have p1' : decide (e.who < 0) = false := decide_eq_false p1
  have p2 : ¬ t ≤ e.who := by omega
  have p2' : decide (t ≤ e.who) = false := decide_eq_false p2
  have p3 : ¬ e.cell < 0 := by omega
  have p3' : decide (e.cell < 0) = false := decide_eq_false p3
  have p4 : ¬ 2 * (N : Int) + 2 * t ≤ e.cell := by omega
  have p4' : decide (2 * (N : Int) + 2 * t ≤ e.cell) = false := decide_eq_false p4
  have HOLD := Lib.hid c5
  clear c5
  go_wp2_with fail
  generalize (w.alloc (.cells #[i64 t, i64 s, i64 so, i64 d] 29)).alloc (e.obj 40) = w1 at HC HO HL HB0 hs0 ⊢
  generalize w.heap.size = b at HC HO hs0 ⊢
  obtain ⟨q0, q1, q2, q3⟩ : _ ∧ _ ∧ _ ∧ _ := ⟨HC.out.at' 0 _ rfl, HC.out.at' 1 _ rfl, HC.out.at' 2 _ rfl, HC.out.at' 3 _ rfl⟩
  obtain ⟨e0, e1, e2, e3, e4, e5⟩ : _ ∧ _ ∧ _ ∧ _ ∧ _ ∧ _ := ⟨HO.out.at' 0 _ rfl, HO.out.at' 1 _ rfl, HO.out.at' 2 _ rfl, HO.out.at' 3 _ rfl, HO.out.at' 4 _ rfl, HO.out.at' 5 _ rfl⟩
  refine wp_region_seq ((0, true) :: (1, true) :: (2, true) :: (3, true) :: (4, true) :: (5, true) :: (6, true) :: (7, true) :: (8, true) :: (9, true) :: (10, true) :: (11, true) :: (12, true) :: (13, true) :: (14, true) :: (15, true) :: (16, true) :: (17, true) :: (18, true) :: (19, false) :: (20, true) :: (21, true) :: (22, true) :: (23, true) :: (24, true) :: (25, true) :: (26, true) :: (27, true) :: (28, false) :: (29, true) :: (30, true) :: []) (by kernel_rfl) (by kernel_rfl) (by kernel_rfl) (by decide) (fun _ _ _ _ _ h => h) (fun hHeld => ?_)
  iterate 19 (first | (refine seq_take (v := ?_) rfl ?_ ?_ ?_; rotate_left 1; rfl; (focus (intro wS hSw; have hk := below_rule hSw; go_simp; first | done | with_reducible rfl)); (try simp only [Act.put, List.setIfInBounds_toArray, List.set_cons_zero, List.set_cons_succ])) | (refine seq_skip rfl ?_ ?_; rfl; (try simp only [Act.put, List.setIfInBounds_toArray, List.set_cons_zero, List.set_cons_succ])))
  refine seq_run rfl (fun K hK => ?_)
  go_simp
  go_at_call 39
  refine (ccells_any t s so d N _ HLA.out).mono ?_
  rintro r w9 ⟨rfl, hb'⟩
  (try go_wp2_with fail)
  refine hK.out _ _ (below_step hHeld hb') ?_
  replace hHeld := below_step hHeld hb'
  clear hb' hK K
  intro _
  (try simp only [Act.put, List.setIfInBounds_toArray, List.set_cons_zero, List.set_cons_succ])
  iterate 8 (first | (refine seq_take (v := ?_) rfl ?_ ?_ ?_; rotate_left 1; rfl; (focus (intro wS hSw; have hk := below_rule hSw; go_simp; first | done | with_reducible rfl)); (try simp only [Act.put, List.setIfInBounds_toArray, List.set_cons_zero, List.set_cons_succ])) | (refine seq_skip rfl ?_ ?_; rfl; (try simp only [Act.put, List.setIfInBounds_toArray, List.set_cons_zero, List.set_cons_succ])))
  refine seq_run rfl (fun K hK => ?_)
  go_simp
  go_at_call 49
  refine (llast_any _ A n cap tb off L e.cell (HL.out.later hHeld) hn1).mono ?_
  rintro r w9 ⟨rfl, hb'⟩
  rw [HOLD.out]
  (try go_wp2_with fail)
  refine hK.out _ _ (below_step hHeld hb') ?_
  replace hHeld := below_step hHeld hb'
  clear hb' hK K
  intro _
  (try simp only [Act.put, List.setIfInBounds_toArray, List.set_cons_zero, List.set_cons_succ])
  iterate 2 (first | (refine seq_take (v := ?_) rfl ?_ ?_ ?_; rotate_left 1; rfl; (focus (intro wS hSw; have hk := below_rule hSw; go_simp; first | done | with_reducible rfl)); (try simp only [Act.put, List.setIfInBounds_toArray, List.set_cons_zero, List.set_cons_succ])) | (refine seq_skip rfl ?_ ?_; rfl; (try simp only [Act.put, List.setIfInBounds_toArray, List.set_cons_zero, List.set_cons_succ])))
  refine seq_done ?_
  have HB1 := Lib.hid (below_step HB0.out hHeld)
  have HC1 := Lib.hid (HC.out.later hHeld)
  have HO1 := Lib.hid (HO.out.later hHeld)
  have HL1 := Lib.hid (HL.out.later hHeld)
  clear hHeld q0 q1 q2 q3 e0 e1 e2 e3 e4 e5
  obtain ⟨q0, q1, q2, q3⟩ : _ ∧ _ ∧ _ ∧ _ := ⟨HC1.out.at' 0 _ rfl, HC1.out.at' 1 _ rfl, HC1.out.at' 2 _ rfl, HC1.out.at' 3 _ rfl⟩
  obtain ⟨e0, e1, e2, e3, e4, e5⟩ : _ ∧ _ ∧ _ ∧ _ ∧ _ ∧ _ := ⟨HO1.out.at' 0 _ rfl, HO1.out.at' 1 _ rfl, HO1.out.at' 2 _ rfl, HO1.out.at' 3 _ rfl, HO1.out.at' 4 _ rfl, HO1.out.at' 5 _ rfl⟩
  go_wp2_with fail
  refine (call_any t s so d N _ HLA.out).mono ?_
  rintro r w2 ⟨rfl, hb⟩
  have HB2 := Lib.hid (below_step HB1.out hb)
  have HC2 := Lib.hid (HC1.out.later hb)
  have HO2 := Lib.hid (HO1.out.later hb)
  have HL2 := Lib.hid (HL1.out.later hb)
  clear hb q0 q1 q2 q3 e0 e1 e2 e3 e4 e5
  obtain ⟨q0, q1, q2, q3⟩ : _ ∧ _ ∧ _ ∧ _ := ⟨HC2.out.at' 0 _ rfl, HC2.out.at' 1 _ rfl, HC2.out.at' 2 _ rfl, HC2.out.at' 3 _ rfl⟩
  obtain ⟨e0, e1, e2, e3, e4, e5⟩ : _ ∧ _ ∧ _ ∧ _ ∧ _ ∧ _ := ⟨HO2.out.at' 0 _ rfl, HO2.out.at' 1 _ rfl, HO2.out.at' 2 _ rfl, HO2.out.at' 3 _ rfl, HO2.out.at' 4 _ rfl, HO2.out.at' 5 _ rfl⟩
  have x1 : ¬ e.cell < (N : Int) := by omega
  have x1' : decide (e.cell < (N : Int)) = false := decide_eq_false x1
  have x2 : e.cell < 2 * (N : Int) := by omega
  have x2' : decide (e.cell < 2 * (N : Int)) = true := decide_eq_true x2
  have y1 : IntKind.i64.wrap (2 * (N : Int)) = 2 * (N : Int) := IntWalk.i64_in _ (by omega)
  have y2 : IntKind.i64.wrap (e.cell - (N : Int)) = e.cell - (N : Int) := IntWalk.i64_in _ (by omega)
  have y3 : IntKind.i64.wrap (2 * (N : Int) + e.who) = 2 * (N : Int) + e.who := IntWalk.i64_in _ (by omega)
  have y4 : IntKind.i64.wrap (e.cell - (N : Int) + 1) = e.cell - (N : Int) + 1 := IntWalk.i64_in _ (by omega)
  have y5 : IntKind.u64.wrap (e.cell - (N : Int) + 1) = e.cell - (N : Int) + 1 := by rw [IntKind.wrap_u64]; omega
  have hsn : ¬ s = 0 := by omega
  have y6 : (e.cell - (N : Int)).tdiv s = (e.cell - (N : Int)) / s := Int.tdiv_eq_ediv_of_nonneg (by omega)
  have y7 : IntKind.i64.wrap ((e.cell - (N : Int)) / s) = (e.cell - (N : Int)) / s := IntWalk.i64_in _ (by have := Int.ediv_nonneg (show 0 ≤ e.cell - (N : Int) by omega) (show 0 ≤ s by omega); have := Int.ediv_le_self (b := s) (show 0 ≤ e.cell - (N : Int) by omega); omega)
  go_wp2_with fail
  refine (llast_any _ A n cap tb off L (e.cell - (N : Int)) HL2.out hn1).mono ?_
  rintro r w3 ⟨rfl, hb⟩
  have HC3 := Lib.hid (HC2.out.later hb)
  have HO3 := Lib.hid (HO2.out.later hb)
  have HL3 := Lib.hid (HL2.out.later hb)
  have HB3 := Lib.hid (below_step HB2.out hb)
  clear hb q0 q1 q2 q3 e0 e1 e2 e3 e4 e5
  obtain ⟨xb0, xb1⟩ := lastE_fit HL2.out.fit (e.cell - (N : Int))
  rw [HX.out] at xb0 xb1 ⊢
  obtain ⟨q0, q1, q2, q3⟩ : _ ∧ _ ∧ _ ∧ _ := ⟨HC3.out.at' 0 _ rfl, HC3.out.at' 1 _ rfl, HC3.out.at' 2 _ rfl, HC3.out.at' 3 _ rfl⟩
  obtain ⟨e0, e1, e2, e3, e4, e5⟩ : _ ∧ _ ∧ _ ∧ _ ∧ _ ∧ _ := ⟨HO3.out.at' 0 _ rfl, HO3.out.at' 1 _ rfl, HO3.out.at' 2 _ rfl, HO3.out.at' 3 _ rfl, HO3.out.at' 4 _ rfl, HO3.out.at' 5 _ rfl⟩
  go_wp2_with fail
  refine (unpack_any x _ xb0 xb1).mono ?_
  rintro r w4 ⟨rfl, hb⟩
  have HC4 := Lib.hid (HC3.out.later hb)
  have HO4 := Lib.hid (HO3.out.later hb)
  have HL4 := Lib.hid (HL3.out.later hb)
  have HB4 := Lib.hid (below_step HB3.out hb)
  clear hb q0 q1 q2 q3 e0 e1 e2 e3 e4 e5
  obtain ⟨q0, q1, q2, q3⟩ : _ ∧ _ ∧ _ ∧ _ := ⟨HC4.out.at' 0 _ rfl, HC4.out.at' 1 _ rfl, HC4.out.at' 2 _ rfl, HC4.out.at' 3 _ rfl⟩
  obtain ⟨e0, e1, e2, e3, e4, e5⟩ : _ ∧ _ ∧ _ ∧ _ ∧ _ ∧ _ := ⟨HO4.out.at' 0 _ rfl, HO4.out.at' 1 _ rfl, HO4.out.at' 2 _ rfl, HO4.out.at' 3 _ rfl, HO4.out.at' 4 _ rfl, HO4.out.at' 5 _ rfl⟩
  have hwb : w4.heap.size < (w4.alloc (.cells #[i64 (x % 4), i64 (x / 4 % 2), i64 (x / 8 % 8192), i64 (x / 65536 % 16777216), i64 (x / 1099511627776)] 61)).heap.size := by simp
  have HW5 := Lib.hid (IsObj.made w4 [i64 (x % 4), i64 (x / 4 % 2), i64 (x / 8 % 8192), i64 (x / 65536 % 16777216), i64 (x / 1099511627776)] 61)
  have hb := below_new (Below.refl w4.heap.size w4) (.cells #[i64 (x % 4), i64 (x / 4 % 2), i64 (x / 8 % 8192), i64 (x / 65536 % 16777216), i64 (x / 1099511627776)] 61)
  have HC5 := Lib.hid (HC4.out.later hb)
  have HO5 := Lib.hid (HO4.out.later hb)
  have HL5 := Lib.hid (HL4.out.later hb)
  have HB5 := Lib.hid (below_step HB4.out hb)
  clear hb q0 q1 q2 q3 e0 e1 e2 e3 e4 e5
  obtain ⟨q0, q1, q2, q3⟩ : _ ∧ _ ∧ _ ∧ _ := ⟨HC5.out.at' 0 _ rfl, HC5.out.at' 1 _ rfl, HC5.out.at' 2 _ rfl, HC5.out.at' 3 _ rfl⟩
  obtain ⟨e0, e1, e2, e3, e4, e5⟩ : _ ∧ _ ∧ _ ∧ _ ∧ _ ∧ _ := ⟨HO5.out.at' 0 _ rfl, HO5.out.at' 1 _ rfl, HO5.out.at' 2 _ rfl, HO5.out.at' 3 _ rfl, HO5.out.at' 4 _ rfl, HO5.out.at' 5 _ rfl⟩
  go_wp2_with fail
  generalize w4.alloc (.cells #[i64 (x % 4), i64 (x / 4 % 2), i64 (x / 8 % 8192), i64 (x / 65536 % 16777216), i64 (x / 1099511627776)] 61) = w5 at HW5 HC5 HO5 HL5 HB5 hwb ⊢
  generalize w4.heap.size = b5 at HW5 hwb ⊢
  refine (loaded_any _ A n cap tb off L e.who (e.cell - (N : Int)) HL5.out hn1).mono ?_
  rintro r w6 ⟨rfl, hb⟩
  have HC6 := Lib.hid (HC5.out.later hb)
  have HO6 := Lib.hid (HO5.out.later hb)
  have HL6 := Lib.hid (HL5.out.later hb)
  have HB6 := Lib.hid (below_step HB5.out hb)
  have HW6 := Lib.hid (HW5.out.later hb)
  clear hb q0 q1 q2 q3 e0 e1 e2 e3 e4 e5
  rw [HLD.out]
  obtain ⟨q0, q1, q2, q3⟩ : _ ∧ _ ∧ _ ∧ _ := ⟨HC6.out.at' 0 _ rfl, HC6.out.at' 1 _ rfl, HC6.out.at' 2 _ rfl, HC6.out.at' 3 _ rfl⟩
  obtain ⟨e0, e1, e2, e3, e4, e5⟩ : _ ∧ _ ∧ _ ∧ _ ∧ _ ∧ _ := ⟨HO6.out.at' 0 _ rfl, HO6.out.at' 1 _ rfl, HO6.out.at' 2 _ rfl, HO6.out.at' 3 _ rfl, HO6.out.at' 4 _ rfl, HO6.out.at' 5 _ rfl⟩
  have hwb7 : w6.heap.size < (w6.alloc (.cells #[i64 a, i64 bb, i64 c, i64 dd, i64 f] 61)).heap.size := by simp
  have HR7 := Lib.hid (IsObj.made w6 [i64 a, i64 bb, i64 c, i64 dd, i64 f] 61)
  have hb := below_new (Below.refl w6.heap.size w6) (.cells #[i64 a, i64 bb, i64 c, i64 dd, i64 f] 61)
  have HC7 := Lib.hid (HC6.out.later hb)
  have HO7 := Lib.hid (HO6.out.later hb)
  have HL7 := Lib.hid (HL6.out.later hb)
  have HB7 := Lib.hid (below_step HB6.out hb)
  have HW7 := Lib.hid (HW6.out.later hb)
  clear hb q0 q1 q2 q3 e0 e1 e2 e3 e4 e5
  obtain ⟨q0, q1, q2, q3⟩ : _ ∧ _ ∧ _ ∧ _ := ⟨HC6.out.at' 0 _ rfl, HC6.out.at' 1 _ rfl, HC6.out.at' 2 _ rfl, HC6.out.at' 3 _ rfl⟩
  obtain ⟨e0, e1, e2, e3, e4, e5⟩ : _ ∧ _ ∧ _ ∧ _ ∧ _ ∧ _ := ⟨HO6.out.at' 0 _ rfl, HO6.out.at' 1 _ rfl, HO6.out.at' 2 _ rfl, HO6.out.at' 3 _ rfl, HO6.out.at' 4 _ rfl, HO6.out.at' 5 _ rfl⟩
  go_wp2_with fail
  clear q0 q1 q2 q3 e0 e1 e2 e3 e4 e5
  generalize w6.alloc (.cells #[i64 a, i64 bb, i64 c, i64 dd, i64 f] 61) = w7 at HR7 HW7 HC7 HO7 HL7 HB7 hwb7 ⊢
  generalize w6.heap.size = b7 at HR7 hwb7 ⊢
  obtain ⟨q0, q1, q2, q3⟩ : _ ∧ _ ∧ _ ∧ _ := ⟨HC7.out.at' 0 _ rfl, HC7.out.at' 1 _ rfl, HC7.out.at' 2 _ rfl, HC7.out.at' 3 _ rfl⟩
  obtain ⟨e0, e1, e2, e3, e4, e5⟩ : _ ∧ _ ∧ _ ∧ _ ∧ _ ∧ _ := ⟨HO7.out.at' 0 _ rfl, HO7.out.at' 1 _ rfl, HO7.out.at' 2 _ rfl, HO7.out.at' 3 _ rfl, HO7.out.at' 4 _ rfl, HO7.out.at' 5 _ rfl⟩
  obtain ⟨r0, r1, r2, r3, r4⟩ : _ ∧ _ ∧ _ ∧ _ ∧ _ := ⟨HR7.out.at' 0 _ rfl, HR7.out.at' 1 _ rfl, HR7.out.at' 2 _ rfl, HR7.out.at' 3 _ rfl, HR7.out.at' 4 _ rfl⟩
  obtain ⟨v0, v1, v2, v3, v4⟩ : _ ∧ _ ∧ _ ∧ _ ∧ _ := ⟨HW7.out.at' 0 _ rfl, HW7.out.at' 1 _ rfl, HW7.out.at' 2 _ rfl, HW7.out.at' 3 _ rfl, HW7.out.at' 4 _ rfl⟩
  rcases (show (e.op = 0 ∧ k = false ∧ loadE L e.who (e.cell - (N : Int)) = none) ∨ (e.op = 0 ∧ k = true ∧ (∃ rr, loadE L e.who (e.cell - (N : Int)) = some rr ∧ rr / 8 % 8192 = c) ∧ c ≠ x / 8 % 8192) ∨ (e.op = 0 ∧ k = true ∧ (∃ rr, loadE L e.who (e.cell - (N : Int)) = some rr ∧ rr / 8 % 8192 = c) ∧ c = x / 8 % 8192 ∧ hh ≠ e.cell - (N : Int) + 1) ∨ (e.op = 0 ∧ k = true ∧ (∃ rr, loadE L e.who (e.cell - (N : Int)) = some rr ∧ rr / 8 % 8192 = c) ∧ c = x / 8 % 8192 ∧ hh = e.cell - (N : Int) + 1) ∨ (e.op = 1 ∧ e.who ≠ (e.cell - (N : Int)) / s) ∨ (e.op = 1 ∧ e.who = (e.cell - (N : Int)) / s ∧ x % 4 = 1) ∨ (e.op = 1 ∧ e.who = (e.cell - (N : Int)) / s ∧ x % 4 ≠ 1) ∨ (e.op ≠ 0 ∧ e.op ≠ 1) from by
    by_cases k0 : e.op = 0
    · have hld := HLD.out
      cases hgg : loadE L e.who (e.cell - (N : Int)) with
      | none =>
        rw [hgg] at hld
        cases hld
        exact .inl ⟨k0, rfl, rfl⟩
      | some rr =>
        rw [hgg] at hld
        cases hld
        by_cases m1 : rr / 8 % 8192 = x / 8 % 8192
        · by_cases m2 : hh = e.cell - (N : Int) + 1
          · exact .inr (.inr (.inr (.inl ⟨k0, rfl, ⟨rr, rfl, rfl⟩, m1, m2⟩)))
          · exact .inr (.inr (.inl ⟨k0, rfl, ⟨rr, rfl, rfl⟩, m1, m2⟩))
        · exact .inr (.inl ⟨k0, rfl, ⟨rr, rfl, rfl⟩, m1⟩)
    by_cases k1 : e.op = 1
    · by_cases m1 : e.who = (e.cell - (N : Int)) / s <;> by_cases m2 : x % 4 = 1 <;> simp [k1, m1, m2]
    · simp [k0, k1]) with ⟨gop, rfl, hld⟩ | ⟨gop, rfl, hld, gq⟩ | ⟨gop, rfl, hld, gq, gh⟩ | ⟨gop, rfl, hld, gq, gh⟩ | ⟨gop, gw⟩ | ⟨gop, gw, gs⟩ | ⟨gop, gw, gs⟩ | ⟨gn0, gn1⟩
  · have hb := HBB.out
    rw [HX.out, HHZ.out] at hb
    obtain rfl : bo = false := by
      cases bo with
      | false => rfl
      | true =>
        rcases hb.1 rfl with ⟨q, ⟨r, hr, hr2⟩, hr3⟩ | ⟨q, q2, q3⟩
        · rw [hld] at hr
          cases hr
        · omega
    have z0 : (e.op == 0) = true := by simp [gop]
    have z1 : (e.op == 1) = false := by simp [gop]
    have z2 : (e.op == 2) = false := by simp [gop]
    have z3 : (e.op == 3) = false := by simp [gop]
    clear hb hld gop
    refine wp_region_seq ((0, true) :: (1, true) :: (2, true) :: (3, true) :: (4, true) :: (5, true) :: (6, true) :: (7, true) :: (8, true) :: (9, true) :: (10, true) :: (11, true) :: (12, true) :: (13, true) :: (14, true) :: (15, true) :: (16, true) :: (17, true) :: (19, true) :: (20, true) :: (21, true) :: (18, false) :: (22, true) :: (23, true) :: (24, true) :: (25, true) :: (26, true) :: (27, true) :: (28, true) :: (29, true) :: (30, true) :: (31, true) :: (32, true) :: (33, true) :: (34, true) :: (35, true) :: (36, true) :: (37, true) :: (38, true) :: (39, true) :: (40, true) :: (41, true) :: []) (by kernel_rfl) (by kernel_rfl) (by kernel_rfl) (by decide) (fun _ _ _ _ _ h => h) (fun hHeld => ?_)
    iterate 21 (first | (refine seq_take (v := ?_) rfl ?_ ?_ ?_; rotate_left 1; rfl; (focus (intro wS hSw; have hk := below_rule hSw; go_simp; first | done | with_reducible rfl)); (try simp only [Act.put, List.setIfInBounds_toArray, List.set_cons_zero, List.set_cons_succ])) | (refine seq_skip rfl ?_ ?_; rfl; (try simp only [Act.put, List.setIfInBounds_toArray, List.set_cons_zero, List.set_cons_succ])))
    refine seq_run rfl (fun K hK => ?_)
    go_simp
    refine hK.out _ _ hHeld (fun _ => ?_)
    (try simp only [Act.put, List.setIfInBounds_toArray, List.set_cons_zero, List.set_cons_succ])
    clear hK K
    iterate 20 (first | (refine seq_take (v := ?_) rfl ?_ ?_ ?_; rotate_left 1; rfl; (focus (intro wS hSw; have hk := below_rule hSw; go_simp; first | done | with_reducible rfl)); (try simp only [Act.put, List.setIfInBounds_toArray, List.set_cons_zero, List.set_cons_succ])) | (refine seq_skip rfl ?_ ?_; rfl; (try simp only [Act.put, List.setIfInBounds_toArray, List.set_cons_zero, List.set_cons_succ])))
    refine seq_done ?_
    go_wp2_with fail
    go_ret
    exact ⟨rfl, below_step HB7.out hHeld⟩
  · obtain ⟨rr, hld, hrc⟩ := hld
    have hb := HBB.out
    rw [HX.out, HHZ.out] at hb
    obtain rfl : bo = false := by
      cases bo with
      | false => rfl
      | true =>
        rcases hb.1 rfl with ⟨q, ⟨r, hr, hr2⟩, hr3⟩ | ⟨q, q2, q3⟩
        · rw [hld] at hr
          cases hr
          exact absurd (hrc.symm.trans hr2) gq
        · omega
    have z0 : (e.op == 0) = true := by simp [gop]
    have z1 : (e.op == 1) = false := by simp [gop]
    have z2 : (e.op == 2) = false := by simp [gop]
    have z3 : (e.op == 3) = false := by simp [gop]
    have gg : (c == x / 8 % 8192) = false := beq_false_of_ne gq
    clear hb hld hrc gq gop
    refine wp_region_seq ((0, true) :: (1, true) :: (2, true) :: (3, true) :: (4, true) :: (5, true) :: (6, true) :: (7, true) :: (8, true) :: (9, true) :: (10, true) :: (11, true) :: (12, true) :: (13, true) :: (14, true) :: (15, true) :: (16, true) :: (17, true) :: (19, true) :: (20, true) :: (21, true) :: (18, false) :: (22, true) :: (23, true) :: (24, true) :: (25, true) :: (26, true) :: (27, true) :: (28, true) :: (29, true) :: (30, true) :: (31, true) :: (32, true) :: (33, true) :: (34, true) :: (35, true) :: (36, true) :: (37, true) :: (38, true) :: (39, true) :: (40, true) :: (41, true) :: []) (by kernel_rfl) (by kernel_rfl) (by kernel_rfl) (by decide) (fun _ _ _ _ _ h => h) (fun hHeld => ?_)
    iterate 21 (first | (refine seq_take (v := ?_) rfl ?_ ?_ ?_; rotate_left 1; rfl; (focus (intro wS hSw; have hk := below_rule hSw; go_simp; first | done | with_reducible rfl)); (try simp only [Act.put, List.setIfInBounds_toArray, List.set_cons_zero, List.set_cons_succ])) | (refine seq_skip rfl ?_ ?_; rfl; (try simp only [Act.put, List.setIfInBounds_toArray, List.set_cons_zero, List.set_cons_succ])))
    refine seq_run rfl (fun K hK => ?_)
    go_simp
    refine hK.out _ _ hHeld (fun _ => ?_)
    (try simp only [Act.put, List.setIfInBounds_toArray, List.set_cons_zero, List.set_cons_succ])
    clear hK K
    iterate 20 (first | (refine seq_take (v := ?_) rfl ?_ ?_ ?_; rotate_left 1; rfl; (focus (intro wS hSw; have hk := below_rule hSw; go_simp; first | done | with_reducible rfl)); (try simp only [Act.put, List.setIfInBounds_toArray, List.set_cons_zero, List.set_cons_succ])) | (refine seq_skip rfl ?_ ?_; rfl; (try simp only [Act.put, List.setIfInBounds_toArray, List.set_cons_zero, List.set_cons_succ])))
    refine seq_done ?_
    go_wp2_with fail
    go_ret
    exact ⟨rfl, below_step HB7.out hHeld⟩
  · obtain ⟨rr, hld, hrc⟩ := hld
    have hb := HBB.out
    rw [HX.out, HHZ.out] at hb
    obtain rfl : bo = false := by
      cases bo with
      | false => rfl
      | true =>
        rcases hb.1 rfl with ⟨q, ⟨r, hr, hr2⟩, hr3⟩ | ⟨q, q2, q3⟩
        · exact absurd hr3 gh
        · omega
    have z0 : (e.op == 0) = true := by simp [gop]
    have z1 : (e.op == 1) = false := by simp [gop]
    have z2 : (e.op == 2) = false := by simp [gop]
    have z3 : (e.op == 3) = false := by simp [gop]
    have gg : (c == x / 8 % 8192) = true := beq_iff_eq.2 gq
    have g9 : (hh == e.cell - (N : Int) + 1) = false := beq_false_of_ne gh
    clear hb hld hrc gq gh gop
    refine wp_region_seq ((0, true) :: (1, true) :: (2, true) :: (3, true) :: (4, true) :: (5, true) :: (6, true) :: (7, true) :: (8, true) :: (9, true) :: (10, true) :: (11, true) :: (12, true) :: (13, true) :: (14, true) :: (15, true) :: (16, true) :: (17, true) :: (19, true) :: (20, true) :: (21, true) :: (18, false) :: (22, true) :: (23, true) :: (24, true) :: (25, true) :: (26, true) :: (27, true) :: (28, true) :: (29, true) :: (30, true) :: (31, true) :: (32, true) :: (33, true) :: (34, true) :: (35, true) :: (36, true) :: (37, true) :: (38, true) :: (39, true) :: (40, true) :: (41, true) :: []) (by kernel_rfl) (by kernel_rfl) (by kernel_rfl) (by decide) (fun _ _ _ _ _ h => h) (fun hHeld => ?_)
    iterate 21 (first | (refine seq_take (v := ?_) rfl ?_ ?_ ?_; rotate_left 1; rfl; (focus (intro wS hSw; have hk := below_rule hSw; go_simp; first | done | with_reducible rfl)); (try simp only [Act.put, List.setIfInBounds_toArray, List.set_cons_zero, List.set_cons_succ])) | (refine seq_skip rfl ?_ ?_; rfl; (try simp only [Act.put, List.setIfInBounds_toArray, List.set_cons_zero, List.set_cons_succ])))
    refine seq_run rfl (fun K hK => ?_)
    go_simp
    go_at_call 49
    refine (llast_any _ A n cap tb off L (2 * (N : Int) + e.who) (HL7.out.later hHeld) hn1).mono ?_
    rintro r w9 ⟨rfl, hb'⟩
    rw [HHZ.out]
    (try go_wp2_with fail)
    refine hK.out _ _ (below_step hHeld hb') ?_
    replace hHeld := below_step hHeld hb'
    clear hb' hK K
    intro _
    (try simp only [Act.put, List.setIfInBounds_toArray, List.set_cons_zero, List.set_cons_succ])
    iterate 20 (first | (refine seq_take (v := ?_) rfl ?_ ?_ ?_; rotate_left 1; rfl; (focus (intro wS hSw; have hk := below_rule hSw; go_simp; first | done | with_reducible rfl)); (try simp only [Act.put, List.setIfInBounds_toArray, List.set_cons_zero, List.set_cons_succ])) | (refine seq_skip rfl ?_ ?_; rfl; (try simp only [Act.put, List.setIfInBounds_toArray, List.set_cons_zero, List.set_cons_succ])))
    refine seq_done ?_
    go_wp2_with fail
    go_ret
    exact ⟨rfl, below_step HB7.out hHeld⟩
  · obtain ⟨rr, hld, hrc⟩ := hld
    have hb := HBB.out
    rw [HX.out, HHZ.out] at hb
    obtain rfl : bo = true := hb.2 (.inl ⟨gop, ⟨rr, hld, hrc.trans gq⟩, gh⟩)
    have z0 : (e.op == 0) = true := by simp [gop]
    have z1 : (e.op == 1) = false := by simp [gop]
    have z2 : (e.op == 2) = false := by simp [gop]
    have z3 : (e.op == 3) = false := by simp [gop]
    have gg : (c == x / 8 % 8192) = true := beq_iff_eq.2 gq
    have g9 : (hh == e.cell - (N : Int) + 1) = true := beq_iff_eq.2 gh
    clear hb hld hrc gq gh gop
    refine wp_region_seq ((0, true) :: (1, true) :: (2, true) :: (3, true) :: (4, true) :: (5, true) :: (6, true) :: (7, true) :: (8, true) :: (9, true) :: (10, true) :: (11, true) :: (12, true) :: (13, true) :: (14, true) :: (15, true) :: (16, true) :: (17, true) :: (19, true) :: (20, true) :: (21, true) :: (18, false) :: (22, true) :: (23, true) :: (24, true) :: (25, true) :: (26, true) :: (27, true) :: (28, true) :: (29, true) :: (30, true) :: (31, true) :: (32, true) :: (33, true) :: (34, true) :: (35, true) :: (36, true) :: (37, true) :: (38, true) :: (39, true) :: (40, true) :: (41, true) :: []) (by kernel_rfl) (by kernel_rfl) (by kernel_rfl) (by decide) (fun _ _ _ _ _ h => h) (fun hHeld => ?_)
    iterate 21 (first | (refine seq_take (v := ?_) rfl ?_ ?_ ?_; rotate_left 1; rfl; (focus (intro wS hSw; have hk := below_rule hSw; go_simp; first | done | with_reducible rfl)); (try simp only [Act.put, List.setIfInBounds_toArray, List.set_cons_zero, List.set_cons_succ])) | (refine seq_skip rfl ?_ ?_; rfl; (try simp only [Act.put, List.setIfInBounds_toArray, List.set_cons_zero, List.set_cons_succ])))
    refine seq_run rfl (fun K hK => ?_)
    go_simp
    go_at_call 49
    refine (llast_any _ A n cap tb off L (2 * (N : Int) + e.who) (HL7.out.later hHeld) hn1).mono ?_
    rintro r w9 ⟨rfl, hb'⟩
    rw [HHZ.out]
    (try go_wp2_with fail)
    refine hK.out _ _ (below_step hHeld hb') ?_
    replace hHeld := below_step hHeld hb'
    clear hb' hK K
    intro _
    (try simp only [Act.put, List.setIfInBounds_toArray, List.set_cons_zero, List.set_cons_succ])
    iterate 20 (first | (refine seq_take (v := ?_) rfl ?_ ?_ ?_; rotate_left 1; rfl; (focus (intro wS hSw; have hk := below_rule hSw; go_simp; first | done | with_reducible rfl)); (try simp only [Act.put, List.setIfInBounds_toArray, List.set_cons_zero, List.set_cons_succ])) | (refine seq_skip rfl ?_ ?_; rfl; (try simp only [Act.put, List.setIfInBounds_toArray, List.set_cons_zero, List.set_cons_succ])))
    refine seq_done ?_
    go_wp2_with fail
    go_ret
    exact ⟨rfl, below_step HB7.out hHeld⟩
  · have hb := HBB.out
    rw [HX.out, HHZ.out] at hb
    obtain rfl : bo = false := by
      cases bo with
      | false => rfl
      | true =>
        rcases hb.1 rfl with ⟨q, ⟨r, hr, hr2⟩, hr3⟩ | ⟨q, q2, q3⟩
        · omega
        · exact absurd q2 gw
    have z0 : (e.op == 0) = false := by simp [gop]
    have z1 : (e.op == 1) = true := by simp [gop]
    have z2 : (e.op == 2) = false := by simp [gop]
    have z3 : (e.op == 3) = false := by simp [gop]
    have ow : (e.who == (e.cell - (N : Int)) / s) = false := beq_false_of_ne gw
    clear hb gw gop
    refine wp_region_seq ((0, true) :: (1, true) :: (2, true) :: (3, true) :: (4, true) :: (5, true) :: (6, true) :: (7, true) :: (8, true) :: (9, true) :: (10, true) :: (11, true) :: (12, true) :: (13, true) :: (14, true) :: (15, true) :: (16, true) :: (17, true) :: (19, true) :: (20, true) :: (21, true) :: (18, false) :: (22, true) :: (23, true) :: (24, true) :: (25, true) :: (26, true) :: (27, true) :: (28, true) :: (29, true) :: (30, true) :: (31, true) :: (32, true) :: (33, true) :: (34, true) :: (35, true) :: (36, true) :: (37, true) :: (38, true) :: (39, true) :: (40, true) :: (41, true) :: []) (by kernel_rfl) (by kernel_rfl) (by kernel_rfl) (by decide) (fun _ _ _ _ _ h => h) (fun hHeld => ?_)
    iterate 21 (first | (refine seq_take (v := ?_) rfl ?_ ?_ ?_; rotate_left 1; rfl; (focus (intro wS hSw; have hk := below_rule hSw; go_simp; first | done | with_reducible rfl)); (try simp only [Act.put, List.setIfInBounds_toArray, List.set_cons_zero, List.set_cons_succ])) | (refine seq_skip rfl ?_ ?_; rfl; (try simp only [Act.put, List.setIfInBounds_toArray, List.set_cons_zero, List.set_cons_succ])))
    refine seq_run rfl (fun K hK => ?_)
    go_simp
    refine hK.out _ _ hHeld (fun _ => ?_)
    (try simp only [Act.put, List.setIfInBounds_toArray, List.set_cons_zero, List.set_cons_succ])
    clear hK K
    iterate 20 (first | (refine seq_take (v := ?_) rfl ?_ ?_ ?_; rotate_left 1; rfl; (focus (intro wS hSw; have hk := below_rule hSw; go_simp; first | done | with_reducible rfl)); (try simp only [Act.put, List.setIfInBounds_toArray, List.set_cons_zero, List.set_cons_succ])) | (refine seq_skip rfl ?_ ?_; rfl; (try simp only [Act.put, List.setIfInBounds_toArray, List.set_cons_zero, List.set_cons_succ])))
    refine seq_done ?_
    go_wp2_with fail
    go_ret
    exact ⟨rfl, below_step HB7.out hHeld⟩
  · have hb := HBB.out
    rw [HX.out, HHZ.out] at hb
    obtain rfl : bo = false := by
      cases bo with
      | false => rfl
      | true =>
        rcases hb.1 rfl with ⟨q, ⟨r, hr, hr2⟩, hr3⟩ | ⟨q, q2, q3⟩
        · omega
        · exact absurd gs q3
    have z0 : (e.op == 0) = false := by simp [gop]
    have z1 : (e.op == 1) = true := by simp [gop]
    have z2 : (e.op == 2) = false := by simp [gop]
    have z3 : (e.op == 3) = false := by simp [gop]
    have ow : (e.who == (e.cell - (N : Int)) / s) = true := beq_iff_eq.2 gw
    have os : (x % 4 != 1) = false := by simp [gs]
    clear hb gw gs gop
    refine wp_region_seq ((0, true) :: (1, true) :: (2, true) :: (3, true) :: (4, true) :: (5, true) :: (6, true) :: (7, true) :: (8, true) :: (9, true) :: (10, true) :: (11, true) :: (12, true) :: (13, true) :: (14, true) :: (15, true) :: (16, true) :: (17, true) :: (19, true) :: (20, true) :: (21, true) :: (18, false) :: (22, true) :: (23, true) :: (24, true) :: (25, true) :: (26, true) :: (27, true) :: (28, true) :: (29, true) :: (30, true) :: (31, true) :: (32, true) :: (33, true) :: (34, true) :: (35, true) :: (36, true) :: (37, true) :: (38, true) :: (39, true) :: (40, true) :: (41, true) :: []) (by kernel_rfl) (by kernel_rfl) (by kernel_rfl) (by decide) (fun _ _ _ _ _ h => h) (fun hHeld => ?_)
    iterate 21 (first | (refine seq_take (v := ?_) rfl ?_ ?_ ?_; rotate_left 1; rfl; (focus (intro wS hSw; have hk := below_rule hSw; go_simp; first | done | with_reducible rfl)); (try simp only [Act.put, List.setIfInBounds_toArray, List.set_cons_zero, List.set_cons_succ])) | (refine seq_skip rfl ?_ ?_; rfl; (try simp only [Act.put, List.setIfInBounds_toArray, List.set_cons_zero, List.set_cons_succ])))
    refine seq_run rfl (fun K hK => ?_)
    go_simp
    refine hK.out _ _ hHeld (fun _ => ?_)
    (try simp only [Act.put, List.setIfInBounds_toArray, List.set_cons_zero, List.set_cons_succ])
    clear hK K
    iterate 20 (first | (refine seq_take (v := ?_) rfl ?_ ?_ ?_; rotate_left 1; rfl; (focus (intro wS hSw; have hk := below_rule hSw; go_simp; first | done | with_reducible rfl)); (try simp only [Act.put, List.setIfInBounds_toArray, List.set_cons_zero, List.set_cons_succ])) | (refine seq_skip rfl ?_ ?_; rfl; (try simp only [Act.put, List.setIfInBounds_toArray, List.set_cons_zero, List.set_cons_succ])))
    refine seq_done ?_
    go_wp2_with fail
    go_ret
    exact ⟨rfl, below_step HB7.out hHeld⟩
  · have hb := HBB.out
    rw [HX.out, HHZ.out] at hb
    obtain rfl : bo = true := hb.2 (.inr ⟨gop, gw, gs⟩)
    have z0 : (e.op == 0) = false := by simp [gop]
    have z1 : (e.op == 1) = true := by simp [gop]
    have z2 : (e.op == 2) = false := by simp [gop]
    have z3 : (e.op == 3) = false := by simp [gop]
    have ow : (e.who == (e.cell - (N : Int)) / s) = true := beq_iff_eq.2 gw
    have os : (x % 4 != 1) = true := bne_iff_ne.2 gs
    clear hb gw gs gop
    refine wp_region_seq ((0, true) :: (1, true) :: (2, true) :: (3, true) :: (4, true) :: (5, true) :: (6, true) :: (7, true) :: (8, true) :: (9, true) :: (10, true) :: (11, true) :: (12, true) :: (13, true) :: (14, true) :: (15, true) :: (16, true) :: (17, true) :: (19, true) :: (20, true) :: (21, true) :: (18, false) :: (22, true) :: (23, true) :: (24, true) :: (25, true) :: (26, true) :: (27, true) :: (28, true) :: (29, true) :: (30, true) :: (31, true) :: (32, true) :: (33, true) :: (34, true) :: (35, true) :: (36, true) :: (37, true) :: (38, true) :: (39, true) :: (40, true) :: (41, true) :: []) (by kernel_rfl) (by kernel_rfl) (by kernel_rfl) (by decide) (fun _ _ _ _ _ h => h) (fun hHeld => ?_)
    iterate 21 (first | (refine seq_take (v := ?_) rfl ?_ ?_ ?_; rotate_left 1; rfl; (focus (intro wS hSw; have hk := below_rule hSw; go_simp; first | done | with_reducible rfl)); (try simp only [Act.put, List.setIfInBounds_toArray, List.set_cons_zero, List.set_cons_succ])) | (refine seq_skip rfl ?_ ?_; rfl; (try simp only [Act.put, List.setIfInBounds_toArray, List.set_cons_zero, List.set_cons_succ])))
    refine seq_run rfl (fun K hK => ?_)
    go_simp
    refine hK.out _ _ hHeld (fun _ => ?_)
    (try simp only [Act.put, List.setIfInBounds_toArray, List.set_cons_zero, List.set_cons_succ])
    clear hK K
    iterate 20 (first | (refine seq_take (v := ?_) rfl ?_ ?_ ?_; rotate_left 1; rfl; (focus (intro wS hSw; have hk := below_rule hSw; go_simp; first | done | with_reducible rfl)); (try simp only [Act.put, List.setIfInBounds_toArray, List.set_cons_zero, List.set_cons_succ])) | (refine seq_skip rfl ?_ ?_; rfl; (try simp only [Act.put, List.setIfInBounds_toArray, List.set_cons_zero, List.set_cons_succ])))
    refine seq_done ?_
    go_wp2_with fail
    go_ret
    exact ⟨rfl, below_step HB7.out hHeld⟩
  · have hb := HBB.out
    rw [HX.out, HHZ.out] at hb
    obtain rfl : bo = false := by
      cases bo with
      | false => rfl
      | true =>
        rcases hb.1 rfl with ⟨q, ⟨r, hr, hr2⟩, hr3⟩ | ⟨q, q2, q3⟩
        · omega
        · omega
    have z0 : (e.op == 0) = false := beq_false_of_ne gn0
    have z1 : (e.op == 1) = false := beq_false_of_ne gn1
    obtain ⟨zz2, z2⟩ : ∃ z, (e.op == 2) = z := ⟨_, rfl⟩
    obtain ⟨zz3, z3⟩ : ∃ z, (e.op == 3) = z := ⟨_, rfl⟩
    clear hb gn0 gn1
    refine wp_region_seq ((0, true) :: (1, true) :: (2, true) :: (3, true) :: (4, true) :: (5, true) :: (6, true) :: (7, true) :: (8, true) :: (9, true) :: (10, true) :: (11, true) :: (12, true) :: (13, true) :: (14, true) :: (15, true) :: (16, true) :: (17, true) :: (19, true) :: (20, true) :: (21, true) :: (18, false) :: (22, true) :: (23, true) :: (24, true) :: (25, true) :: (26, true) :: (27, true) :: (28, true) :: (29, true) :: (30, true) :: (31, true) :: (32, true) :: (33, true) :: (34, true) :: (35, true) :: (36, true) :: (37, true) :: (38, true) :: (39, true) :: (40, true) :: (41, true) :: []) (by kernel_rfl) (by kernel_rfl) (by kernel_rfl) (by decide) (fun _ _ _ _ _ h => h) (fun hHeld => ?_)
    iterate 21 (first | (refine seq_take (v := ?_) rfl ?_ ?_ ?_; rotate_left 1; rfl; (focus (intro wS hSw; have hk := below_rule hSw; go_simp; first | done | with_reducible rfl)); (try simp only [Act.put, List.setIfInBounds_toArray, List.set_cons_zero, List.set_cons_succ])) | (refine seq_skip rfl ?_ ?_; rfl; (try simp only [Act.put, List.setIfInBounds_toArray, List.set_cons_zero, List.set_cons_succ])))
    refine seq_run rfl (fun K hK => ?_)
    go_simp
    refine hK.out _ _ hHeld (fun _ => ?_)
    (try simp only [Act.put, List.setIfInBounds_toArray, List.set_cons_zero, List.set_cons_succ])
    clear hK K
    iterate 20 (first | (refine seq_take (v := ?_) rfl ?_ ?_ ?_; rotate_left 1; rfl; (focus (intro wS hSw; have hk := below_rule hSw; go_simp; first | done | with_reducible rfl)); (try simp only [Act.put, List.setIfInBounds_toArray, List.set_cons_zero, List.set_cons_succ])) | (refine seq_skip rfl ?_ ?_; rfl; (try simp only [Act.put, List.setIfInBounds_toArray, List.set_cons_zero, List.set_cons_succ])))
    refine seq_done ?_
    go_wp2_with fail
    go_ret
    exact ⟨rfl, below_step HB7.out hHeld⟩

end
end Go.Proofs.YtpbpkmmhdfahnaaGreat
