/-
  BoundSums answers true for all layouts and numbers, and leaves all memory that was there as it was. No condition.
-/
import Derived.Test.YtgoncakjkippkabBoundHead
namespace Go.Proofs.Ytgoncakjkippkab
open Go.RowKit
set_option linter.unusedVariables false

theorem src_cell (W : World) (t d : Int) (j : Nat) (hj : j ≤ 4) (T : TypeId) : (W.alloc (.cells #[.int .i64 1, .int .i64 (t + 1), .int .i64 4, .int .i64 1, .int .i64 (d + 2)] T)).cell? ⟨W.heap.size, j, none⟩ = some (.int .i64 (bM t j d)) := by
  rcases (by omega : j = 0 ∨ j = 1 ∨ j = 2 ∨ j = 3 ∨ j = 4) with rfl | rfl | rfl | rfl | rfl
  all_goals
    simp [bM]

set_option maxRecDepth 100000 in
set_option maxHeartbeats 4000000 in
theorem walk_BoundSums (a0_0 : Int) (a0_1 : Int) (a0_2 : Int) (a0_3 : Int) (a1 : Int) (w : World) (w0_0 : (Lit.int .i64 a0_0).wf = true) (w0_1 : (Lit.int .i64 a0_1).wf = true) (w0_2 : (Lit.int .i64 a0_2).wf = true) (w0_3 : (Lit.int .i64 a0_3).wf = true) (w1 : (Lit.int .i64 a1).wf = true) :
    Calls Try.prog 5 #[.agg #[.int .i64 a0_0, .int .i64 a0_1, .int .i64 a0_2, .int .i64 a0_3], .int .i64 a1] w fun e w' => e = .returned (.bool true) ∧ Below w.heap.size w w' := by
  have HO := Lib.hid (IsObj.made w [i64 a0_0, i64 a0_1, i64 a0_2, i64 a0_3] 42)
  have HB := Lib.hid (below_new (Below.refl w.heap.size w) (.cells #[i64 a0_0, i64 a0_1, i64 a0_2, i64 a0_3] 42))
  clear w0_0 w0_1 w0_2 w0_3 w1
  cases hr : rightC a0_0 a0_1 a0_2 a0_3
  case false =>
    go_enter Try.func5, Try.ntmps5
    go_wp2_with fail
    refine (head16_any _).mono ?_
    rintro r w1 ⟨rfl, hb⟩
    have HO1 := Lib.hid (HO.out.later hb)
    have HB1 := Lib.hid (below_step HB.out hb)
    clear hb HO HB
    obtain ⟨c0, c1, c2, c3⟩ : _ ∧ _ ∧ _ ∧ _ := ⟨HO1.out.at' 0 _ rfl, HO1.out.at' 1 _ rfl, HO1.out.at' 2 _ rfl, HO1.out.at' 3 _ rfl⟩
    go_wp2_with fail
    refine (cright_any a0_0 a0_1 a0_2 a0_3 _).mono ?_
    rintro r w2 ⟨rfl, hb⟩
    have HB2 := Lib.hid (below_step HB1.out hb)
    clear hb c0 c1 c2 c3
    go_wp2_with fail
    go_ret
    exact ⟨rfl, HB2.out⟩
  case true =>
    have hr2 : 1 ≤ a0_0 ∧ a0_0 ≤ 64 ∧ 1 ≤ a0_1 ∧ a0_1 ≤ 64 ∧ 0 ≤ a0_2 ∧ a0_2 ≤ 4 ∧ 0 ≤ a0_3 ∧ a0_3 ≤ 100 := by
      have := of_decide_eq_true hr
      omega
    obtain ⟨N, Q, hbn⟩ := BN.mk' hr2.1 hr2.2.1 hr2.2.2.1 hr2.2.2.2.1 hr2.2.2.2.2.2.2.1 hr2.2.2.2.2.2.2.2 hr2.2.2.2.2.1 hr2.2.2.2.2.2.1
    have HBN := Lib.hid hbn
    have HRT := Lib.hid hr
    clear hr hbn
    rcases (by omega : 1000000 < a1 ∨ a1 ≤ 1000000) with hbig | hsm
    · skip
      go_enter Try.func5, Try.ntmps5
      go_wp2_with fail
      refine (head16_any _).mono ?_
      rintro r w1 ⟨rfl, hb⟩
      have HO1 := Lib.hid (HO.out.later hb)
      have HB1 := Lib.hid (below_step HB.out hb)
      clear hb HO HB
      obtain ⟨c0, c1, c2, c3⟩ : _ ∧ _ ∧ _ ∧ _ := ⟨HO1.out.at' 0 _ rfl, HO1.out.at' 1 _ rfl, HO1.out.at' 2 _ rfl, HO1.out.at' 3 _ rfl⟩
      go_wp2_with fail
      refine (cright_any a0_0 a0_1 a0_2 a0_3 _).mono ?_
      rintro r w2 ⟨rfl, hb⟩
      have HB2 := Lib.hid (below_step HB1.out hb)
      have e1 := HRT.out
      clear hb c0 c1 c2 c3
      go_wp2_with fail
      go_ret
      exact ⟨rfl, HB2.out⟩
    · have p0 : decide ((1000000 : Int) < a1) = false := decide_eq_false (by omega)
      have hb := HBN.out.bd
      have hqe := HBN.out.q
      have hqN := HBN.out.qN
      have hNe := HBN.out.lay.eq
      obtain ⟨T, rfl⟩ : ∃ T : Nat, a0_0 = T := ⟨a0_0.toNat, by omega⟩
      obtain ⟨j, rfl⟩ : ∃ j : Nat, a0_2 = j := ⟨a0_2.toNat, by omega⟩
      obtain ⟨z, hz⟩ : ∃ z, bM T j a0_3 = z := ⟨_, rfl⟩
      obtain ⟨q, hq⟩ : ∃ q, a0_1 * ((T : Int) + 1) = q := ⟨_, rfl⟩
      obtain ⟨G, hG⟩ : ∃ G, (T + 1) * (4 * N + 10) = G := ⟨_, rfl⟩
      have hGb : G ≤ 65 * 16394 := by rw [← hG]; exact Nat.mul_le_mul (by omega) (by omega)
      have hGe : ((T : Int) + 1) * (4 * (N : Int) + 10) = (G : Int) := by rw [← hG]; push_cast; rfl
      have HZ := Lib.hid hz
      have HC := Lib.hid (fun (W : World) (T' : TypeId) => (src_cell W T a0_3 j (by omega) T').trans (by rw [HZ.out]))
      rw [hz, hq] at hqe
      rw [hz] at hb
      rw [hq] at hqN
      have w1 : wrap64 ((T : Int) * a0_1) = (N : Int) := by rw [← hNe]; unfold wrap64; omega
      have w2 : wrap64 (a0_1 * ((T : Int) + 1)) = q := by rw [hq]; unfold wrap64; omega
      have w3 : wrap64 (((T : Int) + 1) * (4 * (N : Int) + 10)) = (G : Int) := by rw [hGe]; unfold wrap64; omega
      have HG := Lib.hid hG
      have hj4 : (j : Int) < 5 := by omega
      have qb : 1 ≤ q ∧ q ≤ 4300 := by omega
      have zb : 1 ≤ z ∧ z ≤ 102 := by omega
      have Nb : N ≤ 4096 := by omega
      have HP := Lib.hid (fun W => (bput_any HBN.out W))
      rw [show (Q : Int) = q + z + 2 by omega] at HP
      have e1 := HRT.out
      have HQ := Lib.hid hqN
      have hq43 : Q ≤ 65 * 16394 := by omega
      have hT64 : T ≤ 64 := by omega
      obtain ⟨M, hM⟩ : ∃ M, max Q G = M := ⟨_, rfl⟩
      have hmx : M ≤ 65 * 16394 := hM ▸ Nat.max_le.2 ⟨hq43, hGb⟩
      have h64 : T * M ≤ 64 * (65 * 16394) := Nat.mul_le_mul hT64 hmx
      obtain ⟨P, hP⟩ : ∃ P, T * M = P := ⟨_, rfl⟩
      rw [hP] at h64
      have HWIN : Hid (∀ W, Calls Try.prog 15 #[cf T a0_1 j a0_3] W fun r w' => r = .returned (i64 ((P : Int) + 1)) ∧ Below W.heap.size W w') := fun W =>
        (bwin_any HBN.out T (P + 1) rfl (by unfold bL; rw [hG, hM, hP]) W).mono fun r w' ⟨h1, h2⟩ => ⟨h1.trans (ret_i64 (by push_cast; rfl)), h2⟩
      have E3 := Lib.hid (fun (hh : Q ≤ G) => show IntKind.i64.wrap ((T : Int) * (G : Int)) = (P : Int) from by rw [show (T : Int) * (G : Int) = (P : Int) from by rw [← hP, ← hM, Nat.max_eq_right hh]; push_cast; rfl]; exact IntWalk.i64_in _ (by omega))
      have E4 := Lib.hid (fun (hh : G ≤ Q) => show IntKind.i64.wrap ((T : Int) * (q + z + 2)) = (P : Int) from by rw [show (T : Int) * (q + z + 2) = (P : Int) from by rw [hqe, ← hP, ← hM, Nat.max_eq_left hh]; push_cast; rfl]; exact IntWalk.i64_in _ (by omega))
      have E5 : Hid (IntKind.i64.wrap ((P : Int) + 1) = (P : Int) + 1) := IntWalk.i64_in _ (by omega)
      have HQE := Lib.hid hqe
      clear hP hmx hqe h64 hM hq43 hT64
      clear hq hGe hNe hqN hG hz
      rcases (by omega : a1 ≤ 0 ∨ 0 < a1) with ht | ht
      case inl =>
        have p1 : decide ((0 : Int) < a1) = false := decide_eq_false (by omega)
        have HGT : Hid (∀ W, Calls Try.prog 14 #[cf T a0_1 j a0_3, .int .i64 a1] W fun r w' => r = .returned (i64 (4 * (N : Int) + 10)) ∧ Below W.heap.size W w') := fun W => by
          rcases (by omega : a1 = 0 ∨ a1 < 0) with h0 | h0
          · rw [h0]
            exact (bget_nat HBN.out 0 (4 * N + 10) (by decide) (by omega) W).mono fun r w' ⟨h1, h2⟩ => ⟨h1.trans (ret_i64 (by push_cast; rfl)), h2⟩
          · exact bget_neg HBN.out a1 h0 W
        go_enter Try.func5, Try.ntmps5
        go_wp2_with fail
        refine (head16_any _).mono ?_
        rintro r w1 ⟨rfl, hb⟩
        have HO1 := Lib.hid (HO.out.later hb)
        have HB1 := Lib.hid (below_step HB.out hb)
        clear hb HO HB
        obtain ⟨c0, c1, c2, c3⟩ : _ ∧ _ ∧ _ ∧ _ := ⟨HO1.out.at' 0 _ rfl, HO1.out.at' 1 _ rfl, HO1.out.at' 2 _ rfl, HO1.out.at' 3 _ rfl⟩
        go_wp2_with fail
        refine (cright_any T a0_1 j a0_3 _).mono ?_
        rintro r w2 ⟨rfl, hb⟩
        have HO2 := Lib.hid (HO1.out.later hb)
        have HB2 := Lib.hid (below_step HB1.out hb)
        clear hb c0 c1 c2 c3 HO1 HB1
        obtain ⟨c0, c1, c2, c3⟩ : _ ∧ _ ∧ _ ∧ _ := ⟨HO2.out.at' 0 _ rfl, HO2.out.at' 1 _ rfl, HO2.out.at' 2 _ rfl, HO2.out.at' 3 _ rfl⟩
        have hbl : w.heap.size < w2.heap.size := World.block_lt_of_cell? w2 _ c0
        have hcell := (HC.out w2 3)
        rcases Nat.lt_or_ge G Q with hgq | hgq
        case inl =>
          have p5 : decide ((G : Int) < q + z + 2) = true := decide_eq_true (by rw [HQE.out]; exact Int.ofNat_lt.2 hgq)
          have e3 := E4.out (Nat.le_of_lt hgq)
          have e5 := E5.out
          clear hgq
          go_wp2_with fail
          refine wp_region_seq ((0, true) :: (2, true) :: (1, false) :: (3, true) :: (4, true) :: (5, true) :: (6, true) :: (8, true) :: (7, false) :: (9, true) :: (10, true) :: (11, true) :: (12, true) :: (14, true) :: (15, true) :: (16, true) :: (17, true) :: (18, true) :: (13, false) :: (19, true) :: (20, true) :: (21, true) :: (22, true) :: (24, true) :: (25, true) :: (23, false) :: (26, true) :: (27, true) :: (28, true) :: []) (by kernel_rfl) (by kernel_rfl) (by kernel_rfl) (by decide) (fun _ _ _ _ _ h => h) (fun hHeld => ?_)
          repeat (first
            | (refine seq_take (v := ?_) rfl ?_ ?_ ?_; rotate_left 1; rfl; (focus (intro wS hSw; have hk := below_rule hSw; go_simp; first | done | with_reducible rfl)); (try simp only [Act.put, List.setIfInBounds_toArray, List.set_cons_zero, List.set_cons_succ]))
            | (refine seq_skip rfl ?_ ?_; rfl; (try simp only [Act.put, List.setIfInBounds_toArray, List.set_cons_zero, List.set_cons_succ]))
            | (refine seq_run rfl (fun K hK => ?_); go_simp; (try (first | (go_at_call 13; refine (HP.out _).mono ?_; rintro e w' ⟨rfl, hb'⟩) | (go_at_call 14; refine (HGT.out _).mono ?_; rintro e w' ⟨rfl, hb'⟩) | (go_at_call 15; refine (HWIN.out _).mono ?_; rintro e w' ⟨rfl, hb'⟩) | (go_at_call 16; refine (broom_any _).mono ?_; rintro e w' ⟨rfl, hb'⟩))); (try go_wp2_with fail); refine hK.out _ _ ?_ ?_; (focus (first | exact below_step hHeld hb' | exact below_new hHeld _ | exact hHeld)); (try clear hb'); clear hHeld hK K; intro hHeld; (try simp only [Act.put, List.setIfInBounds_toArray, List.set_cons_zero, List.set_cons_succ])))
          first | refine seq_done ?_ | skip
          have HB3 := Lib.hid (below_step (below_new HB2.out _) hHeld)
          clear hHeld
          go_wp2_with fail
          go_ret
          exact ⟨rfl, HB3.out⟩
        case inr =>
          have p5 : decide ((G : Int) < q + z + 2) = false := decide_eq_false (by rw [HQE.out]; exact Int.not_lt.2 (Int.ofNat_le.2 hgq))
          have e3 := E3.out hgq
          have e5 := E5.out
          clear hgq
          go_wp2_with fail
          refine wp_region_seq ((0, true) :: (2, true) :: (1, false) :: (3, true) :: (4, true) :: (5, true) :: (6, true) :: (8, true) :: (7, false) :: (9, true) :: (10, true) :: (11, true) :: (12, true) :: (14, true) :: (15, true) :: (16, true) :: (17, true) :: (18, true) :: (13, false) :: (19, true) :: (20, true) :: (21, true) :: (22, true) :: (24, true) :: (25, true) :: (23, false) :: (26, true) :: (27, true) :: (28, true) :: []) (by kernel_rfl) (by kernel_rfl) (by kernel_rfl) (by decide) (fun _ _ _ _ _ h => h) (fun hHeld => ?_)
          repeat (first
            | (refine seq_take (v := ?_) rfl ?_ ?_ ?_; rotate_left 1; rfl; (focus (intro wS hSw; have hk := below_rule hSw; go_simp; first | done | with_reducible rfl)); (try simp only [Act.put, List.setIfInBounds_toArray, List.set_cons_zero, List.set_cons_succ]))
            | (refine seq_skip rfl ?_ ?_; rfl; (try simp only [Act.put, List.setIfInBounds_toArray, List.set_cons_zero, List.set_cons_succ]))
            | (refine seq_run rfl (fun K hK => ?_); go_simp; (try (first | (go_at_call 13; refine (HP.out _).mono ?_; rintro e w' ⟨rfl, hb'⟩) | (go_at_call 14; refine (HGT.out _).mono ?_; rintro e w' ⟨rfl, hb'⟩) | (go_at_call 15; refine (HWIN.out _).mono ?_; rintro e w' ⟨rfl, hb'⟩) | (go_at_call 16; refine (broom_any _).mono ?_; rintro e w' ⟨rfl, hb'⟩))); (try go_wp2_with fail); refine hK.out _ _ ?_ ?_; (focus (first | exact below_step hHeld hb' | exact below_new hHeld _ | exact hHeld)); (try clear hb'); clear hHeld hK K; intro hHeld; (try simp only [Act.put, List.setIfInBounds_toArray, List.set_cons_zero, List.set_cons_succ])))
          first | refine seq_done ?_ | skip
          have HB3 := Lib.hid (below_step (below_new HB2.out _) hHeld)
          clear hHeld
          go_wp2_with fail
          go_ret
          exact ⟨rfl, HB3.out⟩
      case inr =>
        have p1 : decide ((0 : Int) < a1) = true := decide_eq_true ht
        obtain ⟨m, rfl⟩ : ∃ m : Nat, a1 = m := ⟨a1.toNat, by omega⟩
        obtain ⟨K, hK⟩ : ∃ K, (m + 1) * (4 * N + 10) = K := ⟨_, rfl⟩
        have hKb : K ≤ 1000001 * 16394 := by rw [← hK]; exact Nat.mul_le_mul (by omega) (by omega)
        have w5 : wrap64 (((m : Int) + 1) * (4 * (N : Int) + 10)) = (K : Int) := by
          rw [show ((m : Int) + 1) * (4 * (N : Int) + 10) = (K : Int) from by rw [← hK]; push_cast; rfl]
          unfold wrap64
          omega
        have HGT := Lib.hid (fun W => bget_nat HBN.out m K (by omega) hK W)
        clear hK
        go_enter Try.func5, Try.ntmps5
        go_wp2_with fail
        refine (head16_any _).mono ?_
        rintro r w1 ⟨rfl, hb⟩
        have HO1 := Lib.hid (HO.out.later hb)
        have HB1 := Lib.hid (below_step HB.out hb)
        clear hb HO HB
        obtain ⟨c0, c1, c2, c3⟩ : _ ∧ _ ∧ _ ∧ _ := ⟨HO1.out.at' 0 _ rfl, HO1.out.at' 1 _ rfl, HO1.out.at' 2 _ rfl, HO1.out.at' 3 _ rfl⟩
        go_wp2_with fail
        refine (cright_any T a0_1 j a0_3 _).mono ?_
        rintro r w2 ⟨rfl, hb⟩
        have HO2 := Lib.hid (HO1.out.later hb)
        have HB2 := Lib.hid (below_step HB1.out hb)
        clear hb c0 c1 c2 c3 HO1 HB1
        obtain ⟨c0, c1, c2, c3⟩ : _ ∧ _ ∧ _ ∧ _ := ⟨HO2.out.at' 0 _ rfl, HO2.out.at' 1 _ rfl, HO2.out.at' 2 _ rfl, HO2.out.at' 3 _ rfl⟩
        have hbl : w.heap.size < w2.heap.size := World.block_lt_of_cell? w2 _ c0
        have hcell := (HC.out w2 3)
        rcases Nat.lt_or_ge G Q with hgq | hgq
        case inl =>
          have p5 : decide ((G : Int) < q + z + 2) = true := decide_eq_true (by rw [HQE.out]; exact Int.ofNat_lt.2 hgq)
          have e3 := E4.out (Nat.le_of_lt hgq)
          have e5 := E5.out
          clear hgq
          go_wp2_with fail
          refine wp_region_seq ((0, true) :: (2, true) :: (1, false) :: (3, true) :: (4, true) :: (5, true) :: (6, true) :: (8, true) :: (7, false) :: (9, true) :: (10, true) :: (11, true) :: (12, true) :: (14, true) :: (15, true) :: (16, true) :: (17, true) :: (18, true) :: (13, false) :: (19, true) :: (20, true) :: (21, true) :: (22, true) :: (24, true) :: (25, true) :: (23, false) :: (26, true) :: (27, true) :: (28, true) :: []) (by kernel_rfl) (by kernel_rfl) (by kernel_rfl) (by decide) (fun _ _ _ _ _ h => h) (fun hHeld => ?_)
          repeat (first
            | (refine seq_take (v := ?_) rfl ?_ ?_ ?_; rotate_left 1; rfl; (focus (intro wS hSw; have hk := below_rule hSw; go_simp; first | done | with_reducible rfl)); (try simp only [Act.put, List.setIfInBounds_toArray, List.set_cons_zero, List.set_cons_succ]))
            | (refine seq_skip rfl ?_ ?_; rfl; (try simp only [Act.put, List.setIfInBounds_toArray, List.set_cons_zero, List.set_cons_succ]))
            | (refine seq_run rfl (fun K hK => ?_); go_simp; (try (first | (go_at_call 13; refine (HP.out _).mono ?_; rintro e w' ⟨rfl, hb'⟩) | (go_at_call 14; refine (HGT.out _).mono ?_; rintro e w' ⟨rfl, hb'⟩) | (go_at_call 15; refine (HWIN.out _).mono ?_; rintro e w' ⟨rfl, hb'⟩) | (go_at_call 16; refine (broom_any _).mono ?_; rintro e w' ⟨rfl, hb'⟩))); (try go_wp2_with fail); refine hK.out _ _ ?_ ?_; (focus (first | exact below_step hHeld hb' | exact below_new hHeld _ | exact hHeld)); (try clear hb'); clear hHeld hK K; intro hHeld; (try simp only [Act.put, List.setIfInBounds_toArray, List.set_cons_zero, List.set_cons_succ])))
          first | refine seq_done ?_ | skip
          have HB3 := Lib.hid (below_step (below_new HB2.out _) hHeld)
          clear hHeld
          go_wp2_with fail
          go_ret
          exact ⟨rfl, HB3.out⟩
        case inr =>
          have p5 : decide ((G : Int) < q + z + 2) = false := decide_eq_false (by rw [HQE.out]; exact Int.not_lt.2 (Int.ofNat_le.2 hgq))
          have e3 := E3.out hgq
          have e5 := E5.out
          clear hgq
          go_wp2_with fail
          refine wp_region_seq ((0, true) :: (2, true) :: (1, false) :: (3, true) :: (4, true) :: (5, true) :: (6, true) :: (8, true) :: (7, false) :: (9, true) :: (10, true) :: (11, true) :: (12, true) :: (14, true) :: (15, true) :: (16, true) :: (17, true) :: (18, true) :: (13, false) :: (19, true) :: (20, true) :: (21, true) :: (22, true) :: (24, true) :: (25, true) :: (23, false) :: (26, true) :: (27, true) :: (28, true) :: []) (by kernel_rfl) (by kernel_rfl) (by kernel_rfl) (by decide) (fun _ _ _ _ _ h => h) (fun hHeld => ?_)
          repeat (first
            | (refine seq_take (v := ?_) rfl ?_ ?_ ?_; rotate_left 1; rfl; (focus (intro wS hSw; have hk := below_rule hSw; go_simp; first | done | with_reducible rfl)); (try simp only [Act.put, List.setIfInBounds_toArray, List.set_cons_zero, List.set_cons_succ]))
            | (refine seq_skip rfl ?_ ?_; rfl; (try simp only [Act.put, List.setIfInBounds_toArray, List.set_cons_zero, List.set_cons_succ]))
            | (refine seq_run rfl (fun K hK => ?_); go_simp; (try (first | (go_at_call 13; refine (HP.out _).mono ?_; rintro e w' ⟨rfl, hb'⟩) | (go_at_call 14; refine (HGT.out _).mono ?_; rintro e w' ⟨rfl, hb'⟩) | (go_at_call 15; refine (HWIN.out _).mono ?_; rintro e w' ⟨rfl, hb'⟩) | (go_at_call 16; refine (broom_any _).mono ?_; rintro e w' ⟨rfl, hb'⟩))); (try go_wp2_with fail); refine hK.out _ _ ?_ ?_; (focus (first | exact below_step hHeld hb' | exact below_new hHeld _ | exact hHeld)); (try clear hb'); clear hHeld hK K; intro hHeld; (try simp only [Act.put, List.setIfInBounds_toArray, List.set_cons_zero, List.set_cons_succ])))
          first | refine seq_done ?_ | skip
          have HB3 := Lib.hid (below_step (below_new HB2.out _) hHeld)
          clear hHeld
          go_wp2_with fail
          go_ret
          exact ⟨rfl, HB3.out⟩
end Go.Proofs.Ytgoncakjkippkab
