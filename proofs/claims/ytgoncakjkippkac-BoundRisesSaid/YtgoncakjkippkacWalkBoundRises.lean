/-
  BoundRises answers true for all layouts and numbers, and leaves all memory that was there as it was. No condition.
-/
import Derived.Test.YtgoncakjkippkacBoundHead
namespace Go.Proofs.Ytgoncakjkippkac
open Go.RowKit
set_option linter.unusedVariables false

/-- A get's bound, of any number of turns. -/
def gI (N : Nat) (k : Int) : Int := (max k 0 + 1) * (4 * (N : Int) + 10)
theorem bget_all {t s so d : Int} {N Q : Nat} (h : BN t s so d N Q) (k : Int) (hk : k ≤ 1000000) (w : World) :
    Calls Try.prog 7 #[cf t s so d, .int .i64 k] w fun r w' => r = .returned (i64 (gI N k)) ∧ Below w.heap.size w w' := by
  rcases (by omega : 0 ≤ k ∨ k < 0) with hk0 | hk0
  · obtain ⟨m, rfl⟩ : ∃ m : Nat, k = m := ⟨k.toNat, by omega⟩
    have e : gI N (m : Int) = (((m + 1) * (4 * N + 10) : Nat) : Int) := by unfold gI; rw [Int.max_eq_left (by omega)]; push_cast; rfl
    rw [e]
    exact bget_nat h m _ (by omega) rfl w
  · have e : gI N k = 4 * (N : Int) + 10 := by unfold gI; rw [Int.max_eq_right (by omega)]; omega
    rw [e]
    exact bget_neg h k hk0 w
set_option maxHeartbeats 1000000 in
theorem bget_nat2 {t s so d : Int} {N Q : Nat} (h : BN t s so d N Q) (m G : Nat) (hm2 : m ≤ 1000001) (hG : (m + 1) * (4 * N + 10) = G) (w : World) :
    Calls Try.prog 7 #[cf t s so d, .int .i64 m] w fun r w' => r = .returned (i64 G) ∧ Below w.heap.size w w' := by
  have b := h.bd
  have hG2 : G ≤ 1000002 * 16394 := by rw [← hG]; exact Nat.mul_le_mul (by omega) (by omega)
  have e0 : ((m : Int) + 1) * (4 * (N : Int) + 10) = (G : Int) := by rw [← hG]; push_cast; rfl
  have e1 : wrap64 (((m : Int) + 1) * (4 * (N : Int) + 10)) = (G : Int) := by
    rw [e0]
    unfold wrap64
    omega
  have E1 := Lib.hid e1
  have HC := Lib.hid (fun W => call_any t s so d N W h.lay)
  have hN : N ≤ 4096 := by omega
  clear hG hG2 h e1 e0 b
  go_enter Try.func7, Try.ntmps7
  go_wp2_with fail
  refine (HC.out _).mono ?_
  rintro r w1 ⟨rfl, hb⟩
  have HB := Lib.hid (below_step (below_new (Below.refl _ _) _) hb)
  clear hb
  go_wp2_with fail
  go_ret
  exact ⟨ret_i64 E1.out, HB.out⟩
theorem bget_top {t s so d : Int} {N Q : Nat} (h : BN t s so d N Q) (k : Int) (hk : k ≤ 1000001) (w : World) :
    Calls Try.prog 7 #[cf t s so d, .int .i64 k] w fun r w' => r = .returned (i64 (gI N k)) ∧ Below w.heap.size w w' := by
  rcases (by omega : 0 ≤ k ∨ k < 0) with hk0 | hk0
  · obtain ⟨m, rfl⟩ : ∃ m : Nat, k = m := ⟨k.toNat, by omega⟩
    have e : gI N (m : Int) = (((m + 1) * (4 * N + 10) : Nat) : Int) := by unfold gI; rw [Int.max_eq_left (by omega)]; push_cast; rfl
    rw [e]
    exact bget_nat2 h m _ (by omega) rfl w
  · have e : gI N k = 4 * (N : Int) + 10 := by unfold gI; rw [Int.max_eq_right (by omega)]; omega
    rw [e]
    exact bget_neg h k hk0 w
theorem gI_rise {N M : Nat} {k : Int} (h : N < M) : gI N k < gI M k := by
  unfold gI
  exact Int.mul_lt_mul_of_pos_left (by omega) (by omega)
theorem gI_turn (N : Nat) (k : Int) : gI N k ≤ gI N (k + 1) := by
  unfold gI
  exact Int.mul_le_mul_of_nonneg_right (by omega) (by omega)
/-- A window. -/
def wI (T N Q : Nat) : Int := (T * bL N Q T + 1 : Nat)
theorem bL_rise {N M Q P T : Nat} (h : N ≤ M) (hq : Q ≤ P) : bL N Q T ≤ bL M P T := by
  unfold bL
  have := Nat.mul_le_mul_left (T + 1) (show 4 * N + 10 ≤ 4 * M + 10 by omega)
  generalize (T + 1) * (4 * N + 10) = x at this ⊢
  generalize (T + 1) * (4 * M + 10) = y at this ⊢
  exact Nat.max_le.2 ⟨Nat.le_trans hq (Nat.le_max_left _ _), Nat.le_trans this (Nat.le_max_right _ _)⟩

theorem bM_rise (t so d : Int) : bM t so d ≤ bM (t + 1) so d := by
  unfold bM
  repeat' split
  all_goals omega
/-- Three layouts: one, one with a thread more, one with a place more. -/
theorem rises {T : Nat} {s so d : Int} {N1 N2 N3 Q1 Q2 Q3 : Nat} (h1 : BN T s so d N1 Q1) (h2 : BN ((T : Int) + 1) s so d N2 Q2) (h3 : BN T (s + 1) so d N3 Q3) : N1 < N2 ∧ N1 < N3 ∧ Q1 ≤ Q2 ∧ Q1 ≤ Q3 ∧ wI T N1 Q1 < wI (T + 1) N2 Q2 ∧ wI T N1 Q1 < wI T N3 Q3 := by
  have b1 := h1.bd
  have e1 := h1.lay.eq; have e2 := h2.lay.eq; have e3 := h3.lay.eq
  rw [Int.add_mul, Int.one_mul] at e2
  rw [Int.mul_add, Int.mul_one] at e3
  have q1 := h1.q; have q2 := h2.q; have q3 := h3.q
  have n1 := h1.qN; have n2 := h2.qN; have n3 := h3.qN
  have hm := bM_rise T so d
  rw [n1] at q1
  rw [n2] at q2
  rw [n3] at q3
  have hN2 : N1 < N2 := by omega
  have hN3 : N1 < N3 := by omega
  have hQ2 : Q1 ≤ Q2 := by omega
  have hQ3 : Q1 < Q3 := by omega
  have hT1 : 1 ≤ T := by omega
  refine ⟨hN2, hN3, hQ2, Nat.le_of_lt hQ3, ?_, ?_⟩
  · have k1 : bL N1 Q1 T ≤ bL N2 Q2 (T + 1) := by
      have a1 := bL_rise (T := T) (Nat.le_of_lt hN2) hQ2
      refine Nat.le_trans a1 ?_
      unfold bL
      exact Nat.max_le.2 ⟨Nat.le_max_left _ _, Nat.le_trans (Nat.mul_le_mul_right _ (by omega)) (Nat.le_max_right _ _)⟩
    have k2 := Nat.mul_le_mul_left T k1
    have k3 : 1 ≤ bL N2 Q2 (T + 1) := by
      unfold bL
      have := h2.bd
      exact Nat.le_trans (by omega) (Nat.le_max_left _ _)
    unfold wI
    have k4 : (T + 1) * bL N2 Q2 (T + 1) = T * bL N2 Q2 (T + 1) + bL N2 Q2 (T + 1) := Nat.succ_mul _ _
    omega
  · have k1 : bL N1 Q1 T < bL N3 Q3 T := by
      have a1 : (T + 1) * (4 * N1 + 10) < (T + 1) * (4 * N3 + 10) := Nat.mul_lt_mul_of_pos_left (by omega) (by omega)
      unfold bL
      exact Nat.max_lt.2 ⟨Nat.lt_of_lt_of_le hQ3 (Nat.le_max_left _ _), Nat.lt_of_lt_of_le a1 (Nat.le_max_right _ _)⟩
    have k2 := Nat.mul_lt_mul_of_pos_left k1 (show 0 < T by omega)
    unfold wI
    omega

set_option maxRecDepth 100000 in
set_option maxHeartbeats 8000000 in
theorem walk_BoundRises (a0_0 : Int) (a0_1 : Int) (a0_2 : Int) (a0_3 : Int) (a1 : Int) (w : World) (w0_0 : (Lit.int .i64 a0_0).wf = true) (w0_1 : (Lit.int .i64 a0_1).wf = true) (w0_2 : (Lit.int .i64 a0_2).wf = true) (w0_3 : (Lit.int .i64 a0_3).wf = true) (w1 : (Lit.int .i64 a1).wf = true) :
    Calls Try.prog 3 #[.agg #[.int .i64 a0_0, .int .i64 a0_1, .int .i64 a0_2, .int .i64 a0_3], .int .i64 a1] w fun e w' => e = .returned (.bool true) ∧ Below w.heap.size w w' := by
  have HO := Lib.hid (IsObj.made w [i64 a0_0, i64 a0_1, i64 a0_2, i64 a0_3] 24)
  have HB := Lib.hid (below_new (Below.refl w.heap.size w) (.cells #[i64 a0_0, i64 a0_1, i64 a0_2, i64 a0_3] 24))
  clear w0_0 w0_1 w0_2 w0_3 w1
  go_enter Try.func3, Try.ntmps3
  go_wp2_with fail
  refine (head16_any _).mono ?_
  rintro r w1 ⟨rfl, hb⟩
  have HO1 := Lib.hid (HO.out.later hb)
  have HB1 := Lib.hid (below_step HB.out hb)
  clear hb HO HB
  obtain ⟨c0, c1, c2, c3⟩ : _ ∧ _ ∧ _ ∧ _ := ⟨HO1.out.at' 0 _ rfl, HO1.out.at' 1 _ rfl, HO1.out.at' 2 _ rfl, HO1.out.at' 3 _ rfl⟩
  have hbl : w.heap.size < w1.heap.size := World.block_lt_of_cell? w1 _ c0
  cases hr : rightC a0_0 a0_1 a0_2 a0_3
  case false =>
    go_wp2_with fail
    refine (cright_any a0_0 a0_1 a0_2 a0_3 _).mono ?_
    rintro r w2 ⟨rfl, hb⟩
    have HB2 := Lib.hid (below_step (below_new (below_new HB1.out _) _) hb)
    clear hb c0 c1 c2 c3
    go_wp2_with fail
    go_ret
    exact ⟨rfl, HB2.out⟩
  case true =>
    have hr2 : 1 ≤ a0_0 ∧ a0_0 ≤ 64 ∧ 1 ≤ a0_1 ∧ a0_1 ≤ 64 ∧ 0 ≤ a0_2 ∧ a0_2 ≤ 4 ∧ 0 ≤ a0_3 ∧ a0_3 ≤ 100 := by
      have := of_decide_eq_true hr
      omega
    obtain ⟨T, rfl⟩ : ∃ T : Nat, a0_0 = T := ⟨a0_0.toNat, by omega⟩
    have hM := (IsObj.made w1 [i64 ((T : Int) + 1), i64 a0_1, i64 a0_2, i64 a0_3] 24).later (below_new (Below.refl _ _) (.cells #[i64 T, i64 (a0_1 + 1), i64 a0_2, i64 a0_3] 24))
    have hW := IsObj.made (w1.alloc (.cells #[i64 ((T : Int) + 1), i64 a0_1, i64 a0_2, i64 a0_3] 24)) [i64 T, i64 (a0_1 + 1), i64 a0_2, i64 a0_3] 24
    have hC := (HO1.out.later (below_new (Below.refl _ _) (.cells #[i64 ((T : Int) + 1), i64 a0_1, i64 a0_2, i64 a0_3] 24))).later (below_new (Below.refl _ _) (.cells #[i64 T, i64 (a0_1 + 1), i64 a0_2, i64 a0_3] 24))
    rw [World.size_alloc] at hW
    have HM := Lib.hid hM
    have HW := Lib.hid hW
    have HC := Lib.hid hC
    have HBB := Lib.hid (below_new (below_new HB1.out (.cells #[i64 ((T : Int) + 1), i64 a0_1, i64 a0_2, i64 a0_3] 24)) (.cells #[i64 T, i64 (a0_1 + 1), i64 a0_2, i64 a0_3] 24))
    have HR2 := Lib.hid hr2
    have HR := Lib.hid hr
    have hwa : wrap64 ((T : Int) + 1) = (T : Int) + 1 := by unfold wrap64; omega
    have hwb : wrap64 (a0_1 + 1) = a0_1 + 1 := by unfold wrap64; omega
    clear hM hW hC hr2
    go_wp2_with fail
    refine (cright_any T a0_1 a0_2 a0_3 _).mono ?_
    rintro r w2 ⟨rfl, hb⟩
    have HM2 := Lib.hid (HM.out.later hb)
    have HW2 := Lib.hid (HW.out.later hb)
    have HC2 := Lib.hid (HC.out.later hb)
    have HB2 := Lib.hid (below_step HBB.out hb)
    clear hb c0 c1 c2 c3 HM HW HC HBB HO1 HB1 hwa hwb
    obtain ⟨m0, m1, m2, m3⟩ : _ ∧ _ ∧ _ ∧ _ := ⟨HM2.out.at' 0 _ rfl, HM2.out.at' 1 _ rfl, HM2.out.at' 2 _ rfl, HM2.out.at' 3 _ rfl⟩
    cases hr2 : rightC ((T : Int) + 1) a0_1 a0_2 a0_3
    case false =>
      go_wp2_with fail
      refine (cright_any ((T : Int) + 1) a0_1 a0_2 a0_3 _).mono ?_
      rintro r w3 ⟨rfl, hb⟩
      have HB3 := Lib.hid (below_step HB2.out hb)
      clear hb m0 m1 m2 m3
      go_wp2_with fail
      go_ret
      exact ⟨rfl, HB3.out⟩
    go_wp2_with fail
    refine (cright_any ((T : Int) + 1) a0_1 a0_2 a0_3 _).mono ?_
    rintro r w3 ⟨rfl, hb⟩
    have HM3 := Lib.hid (HM2.out.later hb)
    have HW3 := Lib.hid (HW2.out.later hb)
    have HC3 := Lib.hid (HC2.out.later hb)
    have HB3 := Lib.hid (below_step HB2.out hb)
    clear hb m0 m1 m2 m3 HM2 HW2 HC2 HB2
    obtain ⟨m0, m1, m2, m3⟩ : _ ∧ _ ∧ _ ∧ _ := ⟨HW3.out.at' 0 _ rfl, HW3.out.at' 1 _ rfl, HW3.out.at' 2 _ rfl, HW3.out.at' 3 _ rfl⟩
    cases hr3 : rightC T (a0_1 + 1) a0_2 a0_3
    case false =>
      go_wp2_with fail
      refine (cright_any T (a0_1 + 1) a0_2 a0_3 _).mono ?_
      rintro r w4 ⟨rfl, hb⟩
      have HB4 := Lib.hid (below_step HB3.out hb)
      clear hb m0 m1 m2 m3
      go_wp2_with fail
      go_ret
      exact ⟨rfl, HB4.out⟩
    go_wp2_with fail
    refine (cright_any T (a0_1 + 1) a0_2 a0_3 _).mono ?_
    rintro r w4 ⟨rfl, hb⟩
    have HM4 := Lib.hid (HM3.out.later hb)
    have HW4 := Lib.hid (HW3.out.later hb)
    have HC4 := Lib.hid (HC3.out.later hb)
    have HB4 := Lib.hid (below_step HB3.out hb)
    clear hb m0 m1 m2 m3 HM3 HW3 HC3 HB3
    rcases (by omega : 1000000 < a1 ∨ a1 < -1000000 ∨ (-1000000 ≤ a1 ∧ a1 ≤ 1000000)) with hk | hk | hk
    · have p1 : decide ((1000000 : Int) < a1) = true := decide_eq_true hk
      go_wp2_with fail
      go_ret
      exact ⟨rfl, HB4.out⟩
    · have p1 : decide ((1000000 : Int) < a1) = false := decide_eq_false (by omega)
      have p2 : decide (a1 < (-1000000 : Int)) = true := decide_eq_true hk
      go_wp2_with fail
      go_ret
      exact ⟨rfl, HB4.out⟩
    · have p1 : decide ((1000000 : Int) < a1) = false := decide_eq_false (by omega)
      have p2 : decide (a1 < (-1000000 : Int)) = false := decide_eq_false (by omega)
      have hb1 := HR2.out
      have hb2 : (T : Int) + 1 ≤ 64 := by
        have := of_decide_eq_true hr2
        omega
      have hb3 : a0_1 + 1 ≤ 64 := by
        have := of_decide_eq_true hr3
        omega
      obtain ⟨N1, Q1, n1⟩ := BN.mk' (t := T) (s := a0_1) (so := a0_2) (d := a0_3) hb1.1 hb1.2.1 hb1.2.2.1 hb1.2.2.2.1 hb1.2.2.2.2.2.2.1 hb1.2.2.2.2.2.2.2 hb1.2.2.2.2.1 hb1.2.2.2.2.2.1
      obtain ⟨N2, Q2, n2⟩ := BN.mk' (t := (T : Int) + 1) (s := a0_1) (so := a0_2) (d := a0_3) (by omega) hb2 hb1.2.2.1 hb1.2.2.2.1 hb1.2.2.2.2.2.2.1 hb1.2.2.2.2.2.2.2 hb1.2.2.2.2.1 hb1.2.2.2.2.2.1
      obtain ⟨N3, Q3, n3⟩ := BN.mk' (t := T) (s := a0_1 + 1) (so := a0_2) (d := a0_3) hb1.1 hb1.2.1 (by omega) hb3 hb1.2.2.2.2.2.2.1 hb1.2.2.2.2.2.2.2 hb1.2.2.2.2.1 hb1.2.2.2.2.2.1
      obtain ⟨g1, g2, g3, g4, g5, g6⟩ := rises n1 n2 n3
      have HP1 := Lib.hid (fun W => bput_any n1 W)
      have HP2 := Lib.hid (fun W => bput_any n2 W)
      have HP3 := Lib.hid (fun W => bput_any n3 W)
      have HW1 := Lib.hid (fun W => bwin_any n1 T _ rfl rfl W)
      have HW2 := Lib.hid (fun W => bwin_any n2 (T + 1) _ (by push_cast; rfl) rfl W)
      have HW3 := Lib.hid (fun W => bwin_any n3 T _ rfl rfl W)
      have HG1 := Lib.hid (fun W => bget_all n1 a1 hk.2 W)
      have HG2 := Lib.hid (fun W => bget_all n2 a1 hk.2 W)
      have HG3 := Lib.hid (fun W => bget_all n3 a1 hk.2 W)
      have HG4 : Hid (∀ W, Calls Try.prog 7 #[cf T a0_1 a0_2 a0_3, .int .i64 (a1 + 1)] W fun r w' => r = .returned (i64 (gI N1 (a1 + 1))) ∧ Below W.heap.size W w') := fun W => bget_top n1 (a1 + 1) (by omega) W
      have e1 : decide ((Q1 : Int) ≤ (Q2 : Int)) = true := decide_eq_true (Int.ofNat_le.2 g3)
      have e2 : decide ((Q1 : Int) ≤ (Q3 : Int)) = true := decide_eq_true (Int.ofNat_le.2 g4)
      have e3 : decide (gI N1 a1 < gI N2 a1) = true := decide_eq_true (gI_rise g1)
      have e4 : decide (gI N1 a1 < gI N3 a1) = true := decide_eq_true (gI_rise g2)
      have e5 : decide (gI N1 a1 ≤ gI N1 (a1 + 1)) = true := decide_eq_true (gI_turn N1 a1)
      have e6 : decide (((T * bL N1 Q1 T + 1 : Nat) : Int) < (((T + 1) * bL N2 Q2 (T + 1) + 1 : Nat) : Int)) = true := decide_eq_true g5
      have e7 : decide (((T * bL N1 Q1 T + 1 : Nat) : Int) < ((T * bL N3 Q3 T + 1 : Nat) : Int)) = true := decide_eq_true g6
      have hwr : IntKind.i64.wrap (a1 + 1) = a1 + 1 := IntWalk.i64_in _ (by omega)
      clear hk g1 g2 g3 g4 g5 g6 n1 n2 n3 hb1 hb2 hb3
      generalize gI N1 a1 = y1 at *
      generalize gI N2 a1 = y2 at *
      generalize gI N3 a1 = y3 at *
      generalize gI N1 (a1 + 1) = y4 at *
      generalize ((T * bL N1 Q1 T + 1 : Nat) : Int) = z1 at *
      generalize (((T + 1) * bL N2 Q2 (T + 1) + 1 : Nat) : Int) = z2 at *
      generalize ((T * bL N3 Q3 T + 1 : Nat) : Int) = z3 at *
      generalize (Q1 : Int) = x1 at *
      generalize (Q2 : Int) = x2 at *
      generalize (Q3 : Int) = x3 at *
      go_wp2_with fail
      obtain ⟨c0, c1, c2, c3⟩ : _ ∧ _ ∧ _ ∧ _ := ⟨HC4.out.at' 0 _ rfl, HC4.out.at' 1 _ rfl, HC4.out.at' 2 _ rfl, HC4.out.at' 3 _ rfl⟩
      obtain ⟨m0, m1, m2, m3⟩ : _ ∧ _ ∧ _ ∧ _ := ⟨HM4.out.at' 0 _ rfl, HM4.out.at' 1 _ rfl, HM4.out.at' 2 _ rfl, HM4.out.at' 3 _ rfl⟩
      obtain ⟨v0, v1, v2, v3⟩ : _ ∧ _ ∧ _ ∧ _ := ⟨HW4.out.at' 0 _ rfl, HW4.out.at' 1 _ rfl, HW4.out.at' 2 _ rfl, HW4.out.at' 3 _ rfl⟩
      refine wp_region_seq ((0, true) :: (2, true) :: (1, false) :: (3, false) :: (4, true) :: (5, true) :: (6, true) :: (8, true) :: (7, false) :: (9, false) :: (10, true) :: (11, true) :: (12, true) :: (13, true) :: (14, true) :: (16, true) :: (17, true) :: (15, false) :: (18, false) :: (19, true) :: (20, true) :: (21, true) :: (22, true) :: (23, true) :: (25, true) :: (26, true) :: (24, false) :: (27, false) :: (28, true) :: (29, true) :: (30, true) :: (31, true) :: (32, true) :: (34, true) :: (35, true) :: (36, true) :: (33, false) :: (37, false) :: (38, true) :: (39, true) :: (40, true) :: (41, true) :: (43, true) :: (42, false) :: (44, false) :: (45, true) :: (46, true) :: (47, true) :: (48, true) :: (50, true) :: (49, false) :: (51, false) :: (52, true) :: (53, true) :: (54, true) :: []) (by kernel_rfl) (by kernel_rfl) (by kernel_rfl) (by decide) (fun _ _ _ _ _ h => h) (fun hHeld => ?_)
      repeat (first
        | (refine seq_take (v := ?_) rfl ?_ ?_ ?_; rotate_left 1; rfl; (focus (intro wS hSw; have hk := below_rule hSw; go_simp; first | done | with_reducible rfl)); (try simp only [Act.put, List.setIfInBounds_toArray, List.set_cons_zero, List.set_cons_succ]))
        | (refine seq_skip rfl ?_ ?_; rfl; (try simp only [Act.put, List.setIfInBounds_toArray, List.set_cons_zero, List.set_cons_succ]))
        | (refine seq_run rfl (fun K hK => ?_); go_simp; (try (first | (go_at_call 6; (with_reducible refine (HP1.out _).mono ?_); rintro e w' ⟨rfl, hb'⟩) | (go_at_call 6; (with_reducible refine (HP2.out _).mono ?_); rintro e w' ⟨rfl, hb'⟩) | (go_at_call 6; (with_reducible refine (HP3.out _).mono ?_); rintro e w' ⟨rfl, hb'⟩) | (go_at_call 7; (with_reducible refine (HG1.out _).mono ?_); rintro e w' ⟨rfl, hb'⟩) | (go_at_call 7; (with_reducible refine (HG2.out _).mono ?_); rintro e w' ⟨rfl, hb'⟩) | (go_at_call 7; (with_reducible refine (HG3.out _).mono ?_); rintro e w' ⟨rfl, hb'⟩) | (go_at_call 7; (with_reducible refine (HG4.out _).mono ?_); rintro e w' ⟨rfl, hb'⟩) | (go_at_call 8; (with_reducible refine (HW1.out _).mono ?_); rintro e w' ⟨rfl, hb'⟩) | (go_at_call 8; (with_reducible refine (HW2.out _).mono ?_); rintro e w' ⟨rfl, hb'⟩) | (go_at_call 8; (with_reducible refine (HW3.out _).mono ?_); rintro e w' ⟨rfl, hb'⟩))); (try go_wp2_with fail); refine hK.out _ _ ?_ ?_; (focus (first | exact below_step hHeld hb' | exact below_new hHeld _ | exact hHeld)); (try clear hb'); clear hHeld hK K; intro hHeld; (try simp only [Act.put, List.setIfInBounds_toArray, List.set_cons_zero, List.set_cons_succ])))
      first | refine seq_done ?_ | skip
      have HB5 := Lib.hid (below_step HB4.out hHeld)
      clear hHeld
      go_wp2_with fail
      go_ret
      exact ⟨rfl, HB5.out⟩
end Go.Proofs.Ytgoncakjkippkac
