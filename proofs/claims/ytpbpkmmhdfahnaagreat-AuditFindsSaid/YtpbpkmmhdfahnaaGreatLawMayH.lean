/-
  The contract of the law's own 'may': whether an event may be behind others. No condition but that numbers fit their kinds.
-/
import Derived.Test.YtpbpkmmhdfahnaaGreatLawMay
import Derived.Test.YtpbpkmmhdfahnaaGreatAMem
import Derived.Test.YtpbpkmmhdfahnaaGreatAKit
namespace Go.Proofs.YtpbpkmmhdfahnaaGreat
open Go.RowKit
set_option linter.unusedVariables false

section
variable {w : World} {t s so d : Int} {N n cap tb off : Nat} {A : Option Addr} {L : List Ev} {e : Ev}
set_option maxRecDepth 100000 in
set_option maxHeartbeats 16000000 in
theorem may_hazard (h : MayAt w t s so d N A n cap tb off L e) (c1 : 0 ≤ e.who) (c2 : e.who < t) (c3 : 0 ≤ e.cell) (c4 : e.cell < 2 * N + 2 * t) (c5 : lastE L e.cell = e.old) (c6 : 2 * N ≤ e.cell) (c7 : e.cell < 2 * N + t) (bo : Bool) (hb : bo = true ↔ MayH N e) :
    Calls Tryz.prog 27 #[cf t s so d, .slice A n cap, e.v] w fun r w' => r = .returned (.bool bo) ∧ Below w.heap.size w w' := by
  unfold MayH at hb
  have HBB := Lib.hid hb
  clear hb
  obtain ⟨hl, hrow, hn1, hfe⟩ := h
  have HLA := Lib.hid hl
  have n1 := hl.n1
  have n2 := hl.n2
  have t1 := hl.t1
  have t2 := hl.t2
  have s1 := hl.s1
  have s2 := hl.s2
  have hb0 := below_new (below_new (Below.refl w.heap.size w) (.cells #[i64 t, i64 s, i64 so, i64 d] 29)) (e.obj 40)
  have HB0 := Lib.hid hb0
  have HC : Hid (IsObj ((w.alloc (.cells #[i64 t, i64 s, i64 so, i64 d] 29)).alloc (e.obj 40)) w.heap.size [i64 t, i64 s, i64 so, i64 d]) := Lib.hid ((IsObj.made w [i64 t, i64 s, i64 so, i64 d] 29).later (below_new (Below.refl _ _) _))
  have HO : Hid (IsObj ((w.alloc (.cells #[i64 t, i64 s, i64 so, i64 d] 29)).alloc (e.obj 40)) (w.heap.size + 1) [i64 e.who, i64 e.op, i64 e.cell, u64 e.old, u64 e.new, .bool e.ok]) := Lib.hid (by have h := IsObj.made (w.alloc (.cells #[i64 t, i64 s, i64 so, i64 d] 29)) [i64 e.who, i64 e.op, i64 e.cell, u64 e.old, u64 e.new, .bool e.ok] 40; simp only [World.size_alloc] at h; exact h)
  have HL := Lib.hid (hrow.later hb0)
  have HFE := Lib.hid hfe
  have hs0 : w.heap.size + 1 < ((w.alloc (.cells #[i64 t, i64 s, i64 so, i64 d] 29)).alloc (e.obj 40)).heap.size := HO.out.lt
  clear hl hrow hb0 hfe
  go_enter Tryz.func27, Tryz.ntmps27
  have p1 : ¬ e.who < 0 := by omega
  have p1' : decide (e.who < 0) = false := decide_eq_false p1
  have p2 : ¬ t ≤ e.who := by omega
  have p2' : decide (t ≤ e.who) = false := decide_eq_false p2
  have p3 : ¬ e.cell < 0 := by omega
  have p3' : decide (e.cell < 0) = false := decide_eq_false p3
  have p4 : ¬ 2 * (N : Int) + 2 * t ≤ e.cell := by omega
  have p4' : decide (2 * (N : Int) + 2 * t ≤ e.cell) = false := decide_eq_false p4
  have HOLD := Lib.hid c5
  clear c5
  go_wp2_with fail
  generalize (w.alloc (.cells #[i64 t, i64 s, i64 so, i64 d] 29)).alloc (e.obj 40) = w1 at HC HO HL HB0 hs0 ⊢
  generalize w.heap.size = b at HC HO hs0 ⊢
  obtain ⟨q0, q1, q2, q3⟩ : _ ∧ _ ∧ _ ∧ _ := ⟨HC.out.at' 0 _ rfl, HC.out.at' 1 _ rfl, HC.out.at' 2 _ rfl, HC.out.at' 3 _ rfl⟩
  obtain ⟨e0, e1, e2, e3, e4, e5⟩ : _ ∧ _ ∧ _ ∧ _ ∧ _ ∧ _ := ⟨HO.out.at' 0 _ rfl, HO.out.at' 1 _ rfl, HO.out.at' 2 _ rfl, HO.out.at' 3 _ rfl, HO.out.at' 4 _ rfl, HO.out.at' 5 _ rfl⟩
  refine wp_region_seq ((0, true) :: (1, true) :: (2, true) :: (3, true) :: (4, true) :: (5, true) :: (6, true) :: (7, true) :: (8, true) :: (9, true) :: (10, true) :: (11, true) :: (12, true) :: (13, true) :: (14, true) :: (15, true) :: (16, true) :: (17, true) :: (18, true) :: (19, false) :: (20, true) :: (21, true) :: (22, true) :: (23, true) :: (24, true) :: (25, true) :: (26, true) :: (27, true) :: (28, false) :: (29, true) :: (30, true) :: []) (by kernel_rfl) (by kernel_rfl) (by kernel_rfl) (by decide) (fun _ _ _ _ _ h => h) (fun hHeld => ?_)
  iterate 19 (first | (refine seq_take (v := ?_) rfl ?_ ?_ ?_; rotate_left 1; rfl; (focus (intro wS hSw; have hk := below_rule hSw; go_simp; first | done | with_reducible rfl)); (try simp only [Act.put, List.setIfInBounds_toArray, List.set_cons_zero, List.set_cons_succ])) | (refine seq_skip rfl ?_ ?_; rfl; (try simp only [Act.put, List.setIfInBounds_toArray, List.set_cons_zero, List.set_cons_succ])))
  refine seq_run rfl (fun K hK => ?_)
  go_simp
  go_at_call 39
  refine (ccells_any t s so d N _ HLA.out).mono ?_
  rintro r w9 ⟨rfl, hb'⟩
  (try go_wp2_with fail)
  refine hK.out _ _ (below_step hHeld hb') ?_
  replace hHeld := below_step hHeld hb'
  clear hb' hK K
  intro _
  (try simp only [Act.put, List.setIfInBounds_toArray, List.set_cons_zero, List.set_cons_succ])
  iterate 8 (first | (refine seq_take (v := ?_) rfl ?_ ?_ ?_; rotate_left 1; rfl; (focus (intro wS hSw; have hk := below_rule hSw; go_simp; first | done | with_reducible rfl)); (try simp only [Act.put, List.setIfInBounds_toArray, List.set_cons_zero, List.set_cons_succ])) | (refine seq_skip rfl ?_ ?_; rfl; (try simp only [Act.put, List.setIfInBounds_toArray, List.set_cons_zero, List.set_cons_succ])))
  refine seq_run rfl (fun K hK => ?_)
  go_simp
  go_at_call 49
  refine (llast_any _ A n cap tb off L e.cell (HL.out.later hHeld) hn1).mono ?_
  rintro r w9 ⟨rfl, hb'⟩
  rw [HOLD.out]
  (try go_wp2_with fail)
  refine hK.out _ _ (below_step hHeld hb') ?_
  replace hHeld := below_step hHeld hb'
  clear hb' hK K
  intro _
  (try simp only [Act.put, List.setIfInBounds_toArray, List.set_cons_zero, List.set_cons_succ])
  iterate 2 (first | (refine seq_take (v := ?_) rfl ?_ ?_ ?_; rotate_left 1; rfl; (focus (intro wS hSw; have hk := below_rule hSw; go_simp; first | done | with_reducible rfl)); (try simp only [Act.put, List.setIfInBounds_toArray, List.set_cons_zero, List.set_cons_succ])) | (refine seq_skip rfl ?_ ?_; rfl; (try simp only [Act.put, List.setIfInBounds_toArray, List.set_cons_zero, List.set_cons_succ])))
  refine seq_done ?_
  have HB1 := Lib.hid (below_step HB0.out hHeld)
  have HC1 := Lib.hid (HC.out.later hHeld)
  have HO1 := Lib.hid (HO.out.later hHeld)
  have HL1 := Lib.hid (HL.out.later hHeld)
  clear hHeld q0 q1 q2 q3 e0 e1 e2 e3 e4 e5
  obtain ⟨q0, q1, q2, q3⟩ : _ ∧ _ ∧ _ ∧ _ := ⟨HC1.out.at' 0 _ rfl, HC1.out.at' 1 _ rfl, HC1.out.at' 2 _ rfl, HC1.out.at' 3 _ rfl⟩
  obtain ⟨e0, e1, e2, e3, e4, e5⟩ : _ ∧ _ ∧ _ ∧ _ ∧ _ ∧ _ := ⟨HO1.out.at' 0 _ rfl, HO1.out.at' 1 _ rfl, HO1.out.at' 2 _ rfl, HO1.out.at' 3 _ rfl, HO1.out.at' 4 _ rfl, HO1.out.at' 5 _ rfl⟩
  go_wp2_with fail
  refine (call_any t s so d N _ HLA.out).mono ?_
  rintro r w2 ⟨rfl, hb⟩
  have HB2 := Lib.hid (below_step HB1.out hb)
  have HC2 := Lib.hid (HC1.out.later hb)
  have HO2 := Lib.hid (HO1.out.later hb)
  have HL2 := Lib.hid (HL1.out.later hb)
  clear hb q0 q1 q2 q3 e0 e1 e2 e3 e4 e5
  obtain ⟨q0, q1, q2, q3⟩ : _ ∧ _ ∧ _ ∧ _ := ⟨HC2.out.at' 0 _ rfl, HC2.out.at' 1 _ rfl, HC2.out.at' 2 _ rfl, HC2.out.at' 3 _ rfl⟩
  obtain ⟨e0, e1, e2, e3, e4, e5⟩ : _ ∧ _ ∧ _ ∧ _ ∧ _ ∧ _ := ⟨HO2.out.at' 0 _ rfl, HO2.out.at' 1 _ rfl, HO2.out.at' 2 _ rfl, HO2.out.at' 3 _ rfl, HO2.out.at' 4 _ rfl, HO2.out.at' 5 _ rfl⟩
  rcases (show (e.op = 0) ∨ (e.op = 1 ∧ e.who = e.cell - 2 * N) ∨ (e.op = 1 ∧ e.who ≠ e.cell - 2 * N) ∨ (e.op ≠ 0 ∧ e.op ≠ 1) from by omega) with gop | ⟨gop, gw⟩ | ⟨gop, gw⟩ | ⟨gn0, gn1⟩
  · have hb := HBB.out
    obtain rfl : bo = true := hb.2 (.inl gop)
    have z0 : (e.op == 0) = true := by simp [gop]
    have z1 : (e.op == 1) = false := by simp [gop]
    have z2 : (e.op == 2) = false := by simp [gop]
    have z3 : (e.op == 3) = false := by simp [gop]
    clear hb gop
    have x1 : ¬ e.cell < (N : Int) := by omega
    have x1' : decide (e.cell < (N : Int)) = false := decide_eq_false x1
    have x2 : ¬ e.cell < 2 * (N : Int) := by omega
    have x2' : decide (e.cell < 2 * (N : Int)) = false := decide_eq_false x2
    have y1 : IntKind.i64.wrap (2 * (N : Int)) = 2 * (N : Int) := IntWalk.i64_in _ (by omega)
    have y2 : IntKind.i64.wrap (2 * (N : Int) + t) = 2 * (N : Int) + t := IntWalk.i64_in _ (by omega)
    have y3 : IntKind.i64.wrap (e.cell - 2 * (N : Int)) = e.cell - 2 * (N : Int) := IntWalk.i64_in _ (by omega)
    have x3 : e.cell < 2 * (N : Int) + t := by omega
    have x3' : decide (e.cell < 2 * (N : Int) + t) = true := decide_eq_true x3
    go_wp2_with fail
    go_ret
    exact ⟨rfl, HB2.out⟩
  · have hb := HBB.out
    obtain rfl : bo = true := hb.2 (.inr ⟨gop, gw⟩)
    have z0 : (e.op == 0) = false := by simp [gop]
    have z1 : (e.op == 1) = true := by simp [gop]
    have z2 : (e.op == 2) = false := by simp [gop]
    have z3 : (e.op == 3) = false := by simp [gop]
    have w0 : (e.who == e.cell - 2 * (N : Int)) = true := beq_iff_eq.2 gw
    clear hb gop gw
    have x1 : ¬ e.cell < (N : Int) := by omega
    have x1' : decide (e.cell < (N : Int)) = false := decide_eq_false x1
    have x2 : ¬ e.cell < 2 * (N : Int) := by omega
    have x2' : decide (e.cell < 2 * (N : Int)) = false := decide_eq_false x2
    have y1 : IntKind.i64.wrap (2 * (N : Int)) = 2 * (N : Int) := IntWalk.i64_in _ (by omega)
    have y2 : IntKind.i64.wrap (2 * (N : Int) + t) = 2 * (N : Int) + t := IntWalk.i64_in _ (by omega)
    have y3 : IntKind.i64.wrap (e.cell - 2 * (N : Int)) = e.cell - 2 * (N : Int) := IntWalk.i64_in _ (by omega)
    have x3 : e.cell < 2 * (N : Int) + t := by omega
    have x3' : decide (e.cell < 2 * (N : Int) + t) = true := decide_eq_true x3
    go_wp2_with fail
    go_ret
    exact ⟨rfl, HB2.out⟩
  · have hb := HBB.out
    obtain rfl : bo = false := by
      cases bo with
      | false => rfl
      | true => rcases hb.1 rfl with hq | ⟨_, hq⟩ <;> omega
    have z0 : (e.op == 0) = false := by simp [gop]
    have z1 : (e.op == 1) = true := by simp [gop]
    have z2 : (e.op == 2) = false := by simp [gop]
    have z3 : (e.op == 3) = false := by simp [gop]
    have w0 : (e.who == e.cell - 2 * (N : Int)) = false := beq_false_of_ne gw
    clear hb gop gw
    have x1 : ¬ e.cell < (N : Int) := by omega
    have x1' : decide (e.cell < (N : Int)) = false := decide_eq_false x1
    have x2 : ¬ e.cell < 2 * (N : Int) := by omega
    have x2' : decide (e.cell < 2 * (N : Int)) = false := decide_eq_false x2
    have y1 : IntKind.i64.wrap (2 * (N : Int)) = 2 * (N : Int) := IntWalk.i64_in _ (by omega)
    have y2 : IntKind.i64.wrap (2 * (N : Int) + t) = 2 * (N : Int) + t := IntWalk.i64_in _ (by omega)
    have y3 : IntKind.i64.wrap (e.cell - 2 * (N : Int)) = e.cell - 2 * (N : Int) := IntWalk.i64_in _ (by omega)
    have x3 : e.cell < 2 * (N : Int) + t := by omega
    have x3' : decide (e.cell < 2 * (N : Int) + t) = true := decide_eq_true x3
    go_wp2_with fail
    go_ret
    exact ⟨rfl, HB2.out⟩
  · have hb := HBB.out
    obtain rfl : bo = false := by
      cases bo with
      | false => rfl
      | true => rcases hb.1 rfl with hq | ⟨hq, _⟩ <;> omega
    have z0 : (e.op == 0) = false := beq_false_of_ne gn0
    have z1 : (e.op == 1) = false := beq_false_of_ne gn1
    obtain ⟨zz2, z2⟩ : ∃ z, (e.op == 2) = z := ⟨_, rfl⟩
    obtain ⟨zz3, z3⟩ : ∃ z, (e.op == 3) = z := ⟨_, rfl⟩
    clear hb gn0 gn1
    have x1 : ¬ e.cell < (N : Int) := by omega
    have x1' : decide (e.cell < (N : Int)) = false := decide_eq_false x1
    have x2 : ¬ e.cell < 2 * (N : Int) := by omega
    have x2' : decide (e.cell < 2 * (N : Int)) = false := decide_eq_false x2
    have y1 : IntKind.i64.wrap (2 * (N : Int)) = 2 * (N : Int) := IntWalk.i64_in _ (by omega)
    have y2 : IntKind.i64.wrap (2 * (N : Int) + t) = 2 * (N : Int) + t := IntWalk.i64_in _ (by omega)
    have y3 : IntKind.i64.wrap (e.cell - 2 * (N : Int)) = e.cell - 2 * (N : Int) := IntWalk.i64_in _ (by omega)
    have x3 : e.cell < 2 * (N : Int) + t := by omega
    have x3' : decide (e.cell < 2 * (N : Int) + t) = true := decide_eq_true x3
    go_wp2_with fail
    go_ret
    exact ⟨rfl, HB2.out⟩

end
end Go.Proofs.YtpbpkmmhdfahnaaGreat
