/-
  BoundOwns answers true for all numbers and lists, and leaves all memory that was there as it was. No condition.
-/
import Derived.Test.YtgoncakjkippkabGreatBoundOwn
namespace Go.Proofs.YtgoncakjkippkabGreat
open Go.RowKit
set_option linter.unusedVariables false

set_option maxRecDepth 100000 in
set_option maxHeartbeats 16000000 in
theorem walk_BoundOwns (a0 : Int) (a1 : Int) (a2 : Int) (a3 : Int) (a4 : Option Addr) (len4 cap4 : Nat) (a5 : Option Addr) (len5 cap5 : Nat) (w : World) (w0 : (Lit.int .i64 a0).wf = true) (w1 : (Lit.int .i64 a1).wf = true) (w2 : (Lit.int .i64 a2).wf = true) (w3 : (Lit.int .i64 a3).wf = true) (w4 : IsRows w [.inr true, .inr true, .inl .u64, .inl .i64] a4 len4 cap4) (w5 : IsRows w [.inl .i64] a5 len5 cap5) :
    Calls Tryz.prog 4 #[.int .i64 a0, .int .i64 a1, .int .i64 a2, .int .i64 a3, .slice a4 len4 cap4, .slice a5 len5 cap5] w fun e w' => e = .returned (.bool true) ∧ Below w.heap.size w w' := by
  clear w0 w1 w2 w3
  rcases (by omega : 20 < len4 ∨ (len4 ≤ 20 ∧ 60 < len5) ∨ (len4 ≤ 20 ∧ len5 ≤ 60)) with hbig | ⟨hs4, hbig⟩ | ⟨hs4, hs5⟩
  · have p4 : decide ((20 : Int) < (len4 : Int)) = true := decide_eq_true (by omega)
    clear w4 w5
    go_enter Tryz.func4, Tryz.ntmps4
    go_wp2_with fail
    refine (head16_any _).mono ?_
    rintro e w1 ⟨rfl, hb1⟩
    go_wp2_with fail
    go_ret
    exact ⟨rfl, hb1⟩
  · have p4 : decide ((20 : Int) < (len4 : Int)) = false := decide_eq_false (by omega)
    have p5 : decide ((60 : Int) < (len5 : Int)) = true := decide_eq_true (by omega)
    clear w4 w5
    go_enter Tryz.func4, Tryz.ntmps4
    go_wp2_with fail
    refine (head16_any _).mono ?_
    rintro e w1 ⟨rfl, hb1⟩
    go_wp2_with fail
    go_ret
    exact ⟨rfl, hb1⟩
  have p4 : decide ((20 : Int) < (len4 : Int)) = false := decide_eq_false (by omega)
  have p5 : decide ((60 : Int) < (len5 : Int)) = false := decide_eq_false (by omega)
  obtain ⟨tb, off, X, hX⟩ := rows_aqs w4
  obtain ⟨pb, poff, P, hP⟩ := rows_pk w5
  have HX := Lib.hid hX
  have HP := Lib.hid hP
  clear w4 w5 hX hP
  go_enter Tryz.func4, Tryz.ntmps4
  go_wp2_with fail
  refine (head16_any _).mono ?_
  rintro e w1 ⟨rfl, hb1⟩
  have HX1 := Lib.hid (HX.out.later hb1)
  have HP1 := Lib.hid (HP.out.later hb1)
  have HB1 := Lib.hid hb1
  clear hb1 HX HP
  go_wp2_with fail
  refine (conf4_any _ _ _ _ _).mono ?_
  rintro e w2 ⟨t, s, so, d, rfl, t1, t4, s1, s4, o0, o4, d0, d3, hb2⟩
  have HX2 := Lib.hid (HX1.out.later hb2)
  have HP2 := Lib.hid (HP1.out.later hb2)
  have HB2 := Lib.hid (below_step HB1.out hb2)
  clear hb2 HX1 HP1 HB1
  obtain ⟨T, rfl⟩ : ∃ T : Nat, t = T := ⟨t.toNat, by omega⟩
  obtain ⟨N, Q, hbn⟩ := BN.mk' (t := T) (s := s) (so := so) (d := d) t1 (by omega) s1 (by omega) d0 (by omega) o0 o4
  have hlay := hbn.lay
  have hbd := hbn.bd
  have HBN := Lib.hid hbn
  have HQ0 := Lib.hid hbn.q
  clear hbn
  go_wp2_with fail
  have hA := AtC.made w2 T s so d
  have hB3 := below_new (Below.refl w2.heap.size w2) (.cells #[.int .i64 T, .int .i64 s, .int .i64 so, .int .i64 d] 27)
  have hs3 : w2.heap.size < (w2.alloc (.cells #[.int .i64 T, .int .i64 s, .int .i64 so, .int .i64 d] 27)).heap.size := by simp
  have HA := Lib.hid hA
  have HB := Lib.hid (below_step HB2.out hB3)
  have Hs := Lib.hid hs3
  replace HX2 := Lib.hid (HX2.out.later hB3)
  replace HP2 := Lib.hid (HP2.out.later hB3)
  clear hA hB3 hs3 HB2
  generalize w2.alloc (.cells #[.int .i64 T, .int .i64 s, .int .i64 so, .int .i64 d] 27) = W at HA HB Hs HX2 HP2 ⊢
  generalize w2.heap.size = cb at HA Hs ⊢
  refine (ynew_yes (W := W) T s so d N (Below.refl _ _) hlay o0 o4 d0 (by omega)).mono ?_
  rintro r w3 ⟨yb, ytb, p, c, l0, rfl, hl4, hY, hb, hyb⟩
  have HD0 := Lib.hid (YdL.start hlay o0 o4 d0 (by omega) hY)
  have HL4 := Lib.hid hl4
  have HLAY := Lib.hid hlay
  clear hY hb hyb hl4 hlay hbd
  obtain ⟨im, hm1, hm2, hm3, hm4⟩ := elem_i64.info
  obtain ⟨ib, hi1, hi2, hi3, hi4⟩ := elem_bool16.info
  obtain ⟨q0, q1, q2, q3⟩ := HA.out.later HD0.out.h.below Hs.out
  have hT64 : T ≤ 64 := by omega
  go_wp2_with (at_make; first | (refine wpList_make_full _ rfl _ _ 23 rfl W.heap.size 3 im (.int .i64 0) 1 elem_i64.und hm1 hm2 hm3 .i64 .i64 _ _ T rfl rfl rfl rfl (by rw [hm4]; omega) (by unfold maxLen; omega) HD0.out.h.size ?_; intro w4 hown hg; rw [made_in16] at hown; rw [fl_new T (.int .i64 0)] at hown; have HD1 := Lib.hid (HD0.out.more (A := tObj W.heap.size w3.heap.size (fl T (fun _ => (.int .i64 0)))) ((Below.refl _ _).grown hg (Nat.le_refl _) (fun k hk => by cases hk)) (tObj_ok W.heap.size _ _) ⟨IsObj.row16 hown (fl_len _ _), HD0.out.h.size⟩ (fun q hq => by cases hq; exact Nat.le_refl _)); have R4 := Lib.hid (HD0.out.rest (tObj W.heap.size w3.heap.size (fl T (fun _ => (.int .i64 0))))); clear hown hg q0 q1 q2 q3; obtain ⟨q0, q1, q2, q3⟩ := HA.out.later HD1.out.h.below Hs.out) | (refine wpList_make_full _ rfl _ _ 23 rfl W.heap.size 3 im (.int .i64 0) 1 elem_i64.und hm1 hm2 hm3 .i64 .i64 _ _ T rfl rfl rfl rfl (by rw [hm4]; omega) (by unfold maxLen; omega) HD1.out.h.size ?_; intro w5 hown hg; rw [made_in16] at hown; rw [fl_new T (.int .i64 0)] at hown; have HD2 := Lib.hid (HD1.out.more (A := tObj W.heap.size w4.heap.size (fl T (fun _ => (.int .i64 0)))) ((Below.refl _ _).grown hg (Nat.le_refl _) (fun k hk => by cases hk)) (tObj_ok W.heap.size _ _) ⟨IsObj.row16 hown (fl_len _ _), HD1.out.h.size⟩ (fun q hq => by cases hq; exact Nat.le_refl _)); have R5 := Lib.hid (HD1.out.rest (tObj W.heap.size w4.heap.size (fl T (fun _ => (.int .i64 0))))); clear hown hg q0 q1 q2 q3; obtain ⟨q0, q1, q2, q3⟩ := HA.out.later HD2.out.h.below Hs.out) | (refine wpList_make_full _ rfl _ _ 38 rfl W.heap.size 4 ib (.bool false) 1 elem_bool16.und hi1 hi2 hi3 .i64 .i64 _ _ T rfl rfl rfl rfl (by rw [hi4]; omega) (by unfold maxLen; omega) HD2.out.h.size ?_; intro w6 hown hg; rw [made_bo16] at hown; rw [fl_new T (.bool false)] at hown; have HD3 := Lib.hid (HD2.out.more (A := tObj W.heap.size w5.heap.size (fl T (fun _ => (.bool false)))) ((Below.refl _ _).grown hg (Nat.le_refl _) (fun k hk => by cases hk)) (tObj_ok W.heap.size _ _) ⟨IsObj.row16 hown (fl_len _ _), HD2.out.h.size⟩ (fun q hq => by cases hq; exact Nat.le_refl _)); have R6 := Lib.hid (HD2.out.rest (tObj W.heap.size w5.heap.size (fl T (fun _ => (.bool false))))); clear hown hg q0 q1 q2 q3))
  clear im hm1 hm2 hm3 hm4 ib hi1 hi2 hi3 hi4 HD0 HD1 HD2
  have e4 := HL4.out
  have HO0 : Hid (OwnsAt W w6 _ ⟨yb, ytb, p, c, T, s, so, d, T⟩ N _ _ 0 w3.heap.size w4.heap.size w5.heap.size (fun _ => 0) (fun _ => 0) (fun _ => false)) := Lib.hid ⟨HD3.out, R4.out.app.app.num e4, R5.out.app.num (by rw [List.length_append, e4]; rfl), R6.out.num (by rw [List.length_append, List.length_append, e4]; rfl)⟩
  have HK0 : Hid (OBk (plOf ⟨yb, ytb, p, c, T, s, so, d, T⟩ N) Q ⟨List.replicate (2 * N + 2 * T) 0, [], 0, 0, List.replicate T none, []⟩ (fun _ => 0) (fun _ => 0) (fun _ => false) 0) := Lib.hid (OBk.start (fun k a hk => by
    rw [List.getElem?_replicate] at hk
    split at hk <;> cases hk) _)
  clear R4 R5 R6 HD3 e4 HL4
  generalize w3.heap.size = bo at HO0 ⊢
  generalize w4.heap.size = bt at HO0 ⊢
  generalize w5.heap.size = bk at HO0 ⊢
  go_loopw [16, 17, 21] (fun nv sv iw wr => ∃ (i nx n : Nat) (l : List Thing) (Y : Yd) (J : Nat → Nat) (own tn : Nat → Nat) (tk : Nat → Bool), i ≤ 500 ∧ nx ≤ i ∧ n ≤ 2 * i ∧ nv = .int .i64 nx ∧ sv = .int .i64 (Y.L.length : Nat) ∧ iw = .int .i64 i ∧ Hid (OwnsAt W wr l ⟨yb, ytb, p, c, T, s, so, d, T⟩ N Y J n bo bt bk own tn tk) ∧ Hid (OBk (plOf ⟨yb, ytb, p, c, T, s, so, d, T⟩ N) Q Y own tn tk i)) (fun _ _ iw _ => 500 - (RowKit.intOf iw).toNat)
  case atStart => exact ⟨0, 0, 0, _, _, _, _, _, _, Nat.zero_le _, Nat.le_refl _, Nat.le_refl _, rfl, rfl, rfl, HO0, HK0⟩
  case round =>
    clear HO0 HK0
    obtain ⟨i, nx, n, l, Y, J, own, tn, tk, hi, hnx, hn, rfl, rfl, rfl, HO, HK⟩ := hrel
    rcases Nat.lt_or_ge i 500 with hil | hil
    · have hil' : (i : Int) < 500 := by omega
      obtain ⟨q0, q1, q2, q3⟩ := HA.out.later HO.out.yd.h.below Hs.out
      obtain ⟨k1, hk1, he1⟩ := pick_thread (u := (i : Int)) (T := T) (by omega) (by omega)
      go_upto_if 70 with fail
      go_cut [22] (fun sw wx => ∃ k : Nat, k < T ∧ sw = .int .i64 k ∧ Hid (OwnsAt W wx l ⟨yb, ytb, p, c, T, s, so, d, T⟩ N Y J n bo bt bk own tn tk))
      case first =>
        rcases Nat.eq_zero_or_pos len5 with rfl | hlen
        · go_wp2_with fail
          go_meet
          exact ⟨k1, hk1, rfl, HO⟩
        · have hlen' : (0 : Int) < (len5 : Int) := by omega
          have hl0 : ¬ len5 = 0 := by omega
          have hl1 : ¬ (len5 : Int) = 0 := by omega
          have hT0 : ¬ T = 0 := by omega
          have hT1 : ¬ (T : Int) = 0 := by omega
          obtain ⟨m, hm, hme⟩ := pick_thread (u := (i : Int)) (T := len5) (by omega) (by omega)
          obtain ⟨rfl, hcap, hpb, hcell⟩ := HP2.out m hm
          have c0 := (HO.out.yd.h.below.cell (p := ⟨pb, poff + m, none⟩) hpb).trans hcell
          obtain ⟨u, hu, u0, u1⟩ : ∃ u, bits .and .i64 (P m) 65535 = u ∧ 0 ≤ u ∧ u ≤ 65535 := ⟨_, and_ffff (P m), by omega, by omega⟩
          obtain ⟨k2, hk2, he2⟩ := pick_thread (u := u) (T := T) u0 (by omega)
          clear hcell
          go_wp2_with fail
          refine wp_region_seq ((0, true) :: (1, true) :: (2, true) :: (3, true) :: (4, true) :: (5, true) :: (6, true) :: (7, true) :: (8, true) :: (9, true) :: (10, true) :: (11, true) :: []) (by kernel_rfl) (by kernel_rfl) (by kernel_rfl) (by decide) (fun _ _ _ _ _ h => h) (fun hHeld => ?_)
          repeat (first
            | (refine seq_take (v := ?_) rfl ?_ ?_ ?_; rotate_left 1; rfl; (focus (intro wS hSw; have hk := below_rule hSw; go_simp; first | done | with_reducible rfl)); (try simp only [Act.put, List.setIfInBounds_toArray, List.set_cons_zero, List.set_cons_succ]))
            | (refine seq_skip rfl ?_ ?_; rfl; (try simp only [Act.put, List.setIfInBounds_toArray, List.set_cons_zero, List.set_cons_succ]))
            | (refine seq_run rfl (fun K hK => ?_); go_simp; (try skip); (try go_wp2_with fail); refine hK.out _ _ ?_ ?_; (focus (first | exact below_step hHeld hb' | exact below_new hHeld _ | exact hHeld)); (try clear hb'); clear hHeld hK K; intro hHeld; (try simp only [Act.put, List.setIfInBounds_toArray, List.set_cons_zero, List.set_cons_succ])))
          first | refine seq_done ?_ | skip
          go_wp2_with fail
          go_meet
          exact ⟨k2, hk2, rfl, Lib.hid (HO.out.later hHeld)⟩
      case rest =>
        clear HO q0 q1 q2 q3 he1
        obtain ⟨k, hkT, rfl, HO⟩ := hcut
        obtain ⟨q, hq⟩ : ∃ q, Y.ts[k]? = some q := by
          rcases HO.out.yd.busyOr hkT with ⟨K, ii, hq⟩ | hq
          · exact ⟨_, hq⟩
          · exact ⟨_, hq⟩
        have HQ := Lib.hid hq
        clear hq
        go_wp2_with fail
        refine (HO.out.yd.busy k q.isSome ⟨_, HQ.out, rfl⟩).mono ?_
        rintro r w5 ⟨rfl, hww⟩
        replace hww := hww.symm
        subst hww
        go_upto_if 85 with fail
        go_cut [16, 23] (fun nv av wx => ∃ (nx' n' : Nat) (l' : List Thing) (Y' : Yd) (J' : Nat → Nat) (own' tn' : Nat → Nat) (tk' : Nat → Bool) (K : Wk) (ii : Nat), nx' ≤ i + 1 ∧ n' ≤ 2 * i + 1 ∧ nv = .int .i64 nx' ∧ Hid (OwnsAt W wx l' ⟨yb, ytb, p, c, T, s, so, d, T⟩ N Y' J' n' bo bt bk own' tn' tk') ∧ Hid (OBk (plOf ⟨yb, ytb, p, c, T, s, so, d, T⟩ N) Q Y' own' tn' tk' i) ∧ Hid (Y'.ts[k]? = some (some (K, ii))) ∧ Hid (Y'.L.length = Y.L.length))
        case first =>
          rcases q with _ | ⟨K, ii⟩
          · as_aux_lemma =>
              obtain ⟨tq, htk⟩ : ∃ b, ((bits .and .i64 (nx : Int) 1) == 1) = b := ⟨_, rfl⟩
              have hnw : IntKind.i64.wrap ((nx : Int) + 1) = (nx : Int) + 1 := IntWalk.i64_in _ (by omega)
              rcases Nat.eq_zero_or_pos len4 with rfl | hlen
              · skip
                have hb := below_new (Below.refl w5.heap.size w5) (.cells #[.bool tq, .bool false, .int .u64 0, .int .i64 0] 42)
                obtain ⟨hM, hR⟩ := HO.out.more (A := tObj W.heap.size w5.heap.size [.bool tq, .bool false, .int .u64 0, .int .i64 0]) hb (tObj_ok _ _ _) ⟨IsObj.made w5 [.bool tq, .bool false, .int .u64 0, .int .i64 0] 42, HO.out.yd.h.size⟩ (fun q hq => by cases hq; exact Nat.le_refl _)
                have HM := Lib.hid hM
                have HXR := Lib.hid hR
                have hjx := HO.out.r6.lt
                clear hb hM hR
                go_wp2_with fail
                generalize w5.alloc (.cells #[.bool tq, .bool false, .int .u64 0, .int .i64 0] 42) = w6 at HM ⊢
                generalize w5.heap.size = ab at HM HXR ⊢
                generalize l ++ [tObj W.heap.size ab [.bool tq, .bool false, .int .u64 0, .int .i64 0]] = lx at HM HXR
                generalize l.length = jx at hjx HXR
                refine (make_at tq false 0 0 _ _ _ rfl rfl).mono ?_
                rintro r w7 ⟨rfl, hb⟩
                replace HM := Lib.hid (HM.out.later hb)
                clear hb
                go_wp2_with fail
                refine (HM.out.yd.callIdle (by omega) k HQ.out tq rfl (kdI false) 0 0 (.inl rfl) (by decide) (by decide)).mono ?_
                rintro r w8 ⟨rfl, l2, J2, hd, hg⟩
                have HO2 := Lib.hid (HM.out.go hd hg)
                have HX2 := Lib.hid (HXR.out.go hg)
                have HK2 := Lib.hid (HK.out.call (kd := kdI tq) (e := (kdI false)) (x := 0) (s := 0) HQ.out (OLeft.begun (who := (k : Int)) (e := (kdI false)) (x := 0) (start := 0) (nb := 2 * N + T) (h0 := 2 * N) (hw := 2 * N + k) (m := (k : Int) * s) tq HLAY.out HQ0.out) (b := tq) (by cases tq <;> rfl))
                have HQ2 := Lib.hid (show (Y.ts.set k (some (wkB ⟨yb, ytb, p, c, T, s, so, d, T⟩ N k tq (kdI false) 0 0, Y.ds.length)))[k]? = _ from List.getElem?_set_self (List.getElem?_eq_some_iff.1 HQ.out).1)
                have HO5 : Hid (OwnsAt W (((w8.setCell ⟨bo, k, none⟩ (.int .i64 0)).setCell ⟨bt, k, none⟩ (.int .i64 0)).setCell ⟨bk, k, none⟩ (.bool tq)) _ ⟨yb, ytb, p, c, T, s, so, d, T⟩ N _ J2 (n + 1) bo bt bk (updN own k 0) (updN tn k 0) (updB tk k tq)) := Lib.hid (((HO2.out.set4 hkT 0).set5 (nums_upd tn 0 hkT)).set6 hkT tq)
                have c4 : w8.cell? ⟨bo, k, none⟩ = some (.int .i64 (own k : Nat)) := HO2.out.o4.at' k _ (fl_at hkT)
                have c5 : w8.cell? ⟨bt, k, none⟩ = some (.int .i64 (tn k : Nat)) := HO2.out.o5.at' k _ (fl_at hkT)
                have c6 : w8.cell? ⟨bk, k, none⟩ = some (.bool (tk k)) := HO2.out.o6.at' k _ (fl_at hkT)
                have f4 := HO2.out.o4.fz k
                have f5 := HO2.out.o5.fz k
                have f6 := HO2.out.o6.fz k
                obtain ⟨n1, n2, n3⟩ := HO2.out.ne
                obtain ⟨n4, n5, n6⟩ := HO2.out.neX HX2.out hjx
                have x9 := (HO2.out.yd.has HX2.out).1.at' 0 _ rfl
                have hkT' : (k : Int) < (T : Int) := by omega
                clear hd hg HO HK HQ HM HXR
                go_wp2_with fail
                go_meet
                exact ⟨nx + 1, n + 1, _, _, J2, _, _, _, _, _, by omega, by omega, by go_num, HO5, HK2, HQ2, Lib.hid rfl⟩
              · have hlen' : (0 : Int) < (len4 : Int) := by omega
                have hl0 : ¬ len4 = 0 := by omega
                have hl1 : ¬ (len4 : Int) = 0 := by omega
                obtain ⟨m, hm, hme⟩ := pick_thread (u := (nx : Int)) (T := len4) (by omega) (by omega)
                obtain ⟨rfl, hcap, htb, ⟨c0, c1, c2, c3⟩, x0, x1⟩ := HX2.out m hm
                replace c0 := (HO.out.yd.h.below.cell (p := ⟨tb, _, none⟩) htb).trans c0
                replace c1 := (HO.out.yd.h.below.cell (p := ⟨tb, _, none⟩) htb).trans c1
                replace c2 := (HO.out.yd.h.below.cell (p := ⟨tb, _, none⟩) htb).trans c2
                replace c3 := (HO.out.yd.h.below.cell (p := ⟨tb, _, none⟩) htb).trans c3
                have htw : tb < w5.heap.size := World.block_lt_of_cell? w5 _ c0
                have he01 : kdI (X m).right = 0 ∨ kdI (X m).right = 1 := by cases (X m).right; exact .inl rfl; exact .inr rfl
                generalize (X m).take = xt at c0
                generalize (X m).right = xr at c1 he01
                generalize (X m).value = xv at c2 x0 x1
                generalize (X m).start = xs at c3
                have hb := below_new (Below.refl w5.heap.size w5) (.cells #[.bool xt, .bool xr, .int .u64 xv, .int .i64 xs] 42)
                obtain ⟨hM, hR⟩ := HO.out.more (A := tObj W.heap.size w5.heap.size [.bool xt, .bool xr, .int .u64 xv, .int .i64 xs]) hb (tObj_ok _ _ _) ⟨IsObj.made w5 [.bool xt, .bool xr, .int .u64 xv, .int .i64 xs] 42, HO.out.yd.h.size⟩ (fun q hq => by cases hq; exact Nat.le_refl _)
                have HM := Lib.hid hM
                have HXR := Lib.hid hR
                have hjx := HO.out.r6.lt
                clear hb hM hR
                go_wp2_with fail
                generalize w5.alloc (.cells #[.bool xt, .bool xr, .int .u64 xv, .int .i64 xs] 42) = w6 at HM ⊢
                generalize w5.heap.size = ab at HM HXR ⊢
                generalize l ++ [tObj W.heap.size ab [.bool xt, .bool xr, .int .u64 xv, .int .i64 xs]] = lx at HM HXR
                generalize l.length = jx at hjx HXR
                refine (make_at xt xr xv xs _ _ _ rfl rfl).mono ?_
                rintro r w7 ⟨rfl, hb⟩
                replace HM := Lib.hid (HM.out.later hb)
                clear hb
                go_wp2_with fail
                refine (HM.out.yd.callIdle (by omega) k HQ.out xt rfl (kdI xr) xv xs he01 x0 x1).mono ?_
                rintro r w8 ⟨rfl, l2, J2, hd, hg⟩
                have HO2 := Lib.hid (HM.out.go hd hg)
                have HX2 := Lib.hid (HXR.out.go hg)
                have HK2 := Lib.hid (HK.out.call (kd := kdI xt) (e := (kdI xr)) (x := xv) (s := xs) HQ.out (OLeft.begun (who := (k : Int)) (e := (kdI xr)) (x := xv) (start := xs) (nb := 2 * N + T) (h0 := 2 * N) (hw := 2 * N + k) (m := (k : Int) * s) xt HLAY.out HQ0.out) (b := xt) (by cases xt <;> rfl))
                have HQ2 := Lib.hid (show (Y.ts.set k (some (wkB ⟨yb, ytb, p, c, T, s, so, d, T⟩ N k xt (kdI xr) xv xs, Y.ds.length)))[k]? = _ from List.getElem?_set_self (List.getElem?_eq_some_iff.1 HQ.out).1)
                have HO5 : Hid (OwnsAt W (((w8.setCell ⟨bo, k, none⟩ (.int .i64 0)).setCell ⟨bt, k, none⟩ (.int .i64 0)).setCell ⟨bk, k, none⟩ (.bool xt)) _ ⟨yb, ytb, p, c, T, s, so, d, T⟩ N _ J2 (n + 1) bo bt bk (updN own k 0) (updN tn k 0) (updB tk k xt)) := Lib.hid (((HO2.out.set4 hkT 0).set5 (nums_upd tn 0 hkT)).set6 hkT xt)
                have c4 : w8.cell? ⟨bo, k, none⟩ = some (.int .i64 (own k : Nat)) := HO2.out.o4.at' k _ (fl_at hkT)
                have c5 : w8.cell? ⟨bt, k, none⟩ = some (.int .i64 (tn k : Nat)) := HO2.out.o5.at' k _ (fl_at hkT)
                have c6 : w8.cell? ⟨bk, k, none⟩ = some (.bool (tk k)) := HO2.out.o6.at' k _ (fl_at hkT)
                have f4 := HO2.out.o4.fz k
                have f5 := HO2.out.o5.fz k
                have f6 := HO2.out.o6.fz k
                obtain ⟨n1, n2, n3⟩ := HO2.out.ne
                obtain ⟨n4, n5, n6⟩ := HO2.out.neX HX2.out hjx
                have x9 := (HO2.out.yd.has HX2.out).1.at' 0 _ rfl
                have hkT' : (k : Int) < (T : Int) := by omega
                clear hd hg HO HK HQ HM HXR
                go_wp2_with fail
                go_meet
                exact ⟨nx + 1, n + 1, _, _, J2, _, _, _, _, _, by omega, by omega, by go_num, HO5, HK2, HQ2, Lib.hid rfl⟩
          · go_wp2_with fail
            go_meet
            exact ⟨nx, n, l, Y, J, own, tn, tk, K, ii, by omega, by omega, rfl, HO, HK, HQ, Lib.hid rfl⟩
        case rest =>
          clear HO HK HQ
          obtain ⟨nx', n', l', Y', J', own', tn', tk', K, ii, hnx', hn', rfl, HO, HK, HQ, HL⟩ := hcut
          obtain ⟨n0, hn0⟩ : ∃ n0, Y.L.length = n0 := ⟨_, rfl⟩
          have HN0 : Hid (Y'.L.length = n0) := Lib.hid (HL.out.trans hn0)
          rw [hn0]
          clear hn0 HL
          go_wp2_with fail
          refine (HO.out.yd.step (by omega) k K ii HQ.out).mono ?_
          rintro r w6 ⟨rfl, l2, z, hz, hd, hg⟩
          have HO2 := Lib.hid (HO.out.go hd hg)
          have hown := HK.out.ownB k
          have hown2 := HK.out.tnB k
          have hown3 := HK.out.tnB
          have HKD := Lib.hid (HK.out.kind k K ii HQ.out)
          have hn0b : n0 ≤ 1000 := by have := HO.out.yd.ok.nL; have := HO.out.yd.ok.most; have := HN0.out; omega
          obtain ⟨k1, k2, k3, k4, _⟩ := HO.out.yd.ok.task k K ii HQ.out
          have htu := Wk.turns (P := plOf ⟨yb, ytb, p, c, T, s, so, d, T⟩ N k) (now := Y'.now) k1 k3 k4
          clear k1 k2 k3 k4
          have c4 : w6.cell? ⟨bo, k, none⟩ = some (.int .i64 (own' k : Nat)) := HO2.out.o4.at' k _ (fl_at hkT)
          have f4 := HO2.out.o4.fz k
          have hkT' : (k : Int) < (T : Int) := by omega
          have hwr : IntKind.i64.wrap ((own' k : Int) + 1) = (own' k : Int) + 1 := IntWalk.i64_in _ (by omega)
          have HO3 : Hid (OwnsAt W (w6.setCell ⟨bo, k, none⟩ (.int .i64 ((own' k : Int) + 1))) _ ⟨yb, ytb, p, c, T, s, so, d, T⟩ N _ J' (n' + 1) bo bt bk (updN own' k (own' k + 1)) tn' tk') := Lib.hid (HO2.out.set4 hkT (own' k + 1))
          have HHD := Lib.hid hd
          clear HO2 hg hd
          go_wp2_with fail
          generalize w6.setCell ⟨bo, k, none⟩ (.int .i64 ((own' k : Int) + 1)) = w7 at HO3 ⊢
          refine (HO3.out.yd.log (by omega)).mono ?_
          rintro r w8 ⟨v, rfl, hrow, hb⟩
          obtain ⟨A, cap, rfl⟩ := own_shape hrow
          have hcap := own_cap hrow
          replace HO3 := Lib.hid (HO3.out.later hb)
          have HROW := Lib.hid hrow
          clear hrow hb c4 f4
          rcases htu with ⟨hE, hS⟩ | ⟨e, hE, hT⟩
          · obtain ⟨hlim, hK2⟩ := HK.out.step HO.out.yd.ok (fun _ => rfl) HQ.out hz HO.out.yd.fit (dl := 0) (Nat.zero_le _) (.inl hS)
            have hL2 : (Y'.step (plOf ⟨yb, ytb, p, c, T, s, so, d, T⟩ N k) k K ii z).L = Y'.L := by
              show Y'.L ++ _ = _
              rw [hE, List.append_nil]
            have HK2 := Lib.hid hK2
            have HLIM := Lib.hid hlim
            rw [hL2, HN0.out] at hcap HROW ⊢
            have HLN : Hid ((Y'.step (plOf ⟨yb, ytb, p, c, T, s, so, d, T⟩ N k) k K ii z).L.length = n0) := Lib.hid (by rw [hL2, HN0.out])
            generalize Y'.step (plOf ⟨yb, ytb, p, c, T, s, so, d, T⟩ N k) k K ii z = Y2 at HO3 HK2 HLN HHD
            clear hE hS hL2 hK2 hlim HO HK HQ hz HHD
            by_cases hcp : cap = n0
            · subst hcp
              go_wp2_with fail
              generalize (l2.set 4 (tObj W.heap.size bo (fl T (nums (updN own' k (own' k + 1)))))) = l3 at HO3
              go_loopw [143] (fun ix wr => ix = .int .i64 0 ∧ Hid (OwnsAt W wr l3 ⟨yb, ytb, p, c, T, s, so, d, T⟩ N Y2 J' (n' + 1) bo bt bk (updN own' k (own' k + 1)) tn' tk')) (fun _ _ => 0)
              case atStart => exact ⟨rfl, HO3⟩
              case round =>
                clear HO3
                obtain ⟨rfl, HO3⟩ := hrel
                have HO : Hid (OwnsAt W wr l3 ⟨yb, ytb, p, c, T, s, so, d, T⟩ N Y2 J' (n' + 1) bo bt bk (updN own' k (own' k + 1)) (othN tn' k 0) tk') := Lib.hid (HO3.out.eq5 (fl_same (fun j _ => by unfold nums othN; split; rename_i e; rw [e]; rfl)))
                clear HO3
                as_aux_lemma =>
                  obtain ⟨q0, q1, q2, q3⟩ := HA.out.later HO.out.yd.h.below Hs.out
                  have c6 : wr.cell? ⟨bk, k, none⟩ = some (.bool (tk' k)) := HO.out.o6.at' k _ (fl_at hkT)
                  have c4 : wr.cell? ⟨bo, k, none⟩ = some (.int .i64 ((updN own' k (own' k + 1)) k : Nat)) := HO.out.o4.at' k _ (fl_at hkT)
                  have c5 : wr.cell? ⟨bt, k, none⟩ = some (.int .i64 ((othN tn' k 0) k : Nat)) := HO.out.o5.at' k _ (fl_at hkT)
                  rw [updN_same] at c4
                  rw [othN_same] at c5
                  rw [HKD.out] at c6
                  have hlim := HLIM.out
                  obtain ⟨o, ho⟩ : ∃ o, own' k + 1 = o := ⟨_, rfl⟩
                  rw [ho] at c4 hlim
                  generalize tn' k = m at c5 hown2 hlim
                  cases K with
                  | pu gk =>
                    have hle : decide ((Q : Int) < (o : Int)) = false := decide_eq_false (by have h : o ≤ Q := hlim; omega)
                    have hle2 : ¬ (Q : Int) < (o : Int) := by have h : o ≤ Q := hlim; omega
                    have HC1 := Lib.hid (fun w => bput_any HBN.out w)
                    change wr.cell? _ = some (.bool false) at c6
                    clear hlim ho
                    go_wp2_with fail
                    refine wp_region_seq ((0, true) :: (1, true) :: (2, true) :: (3, true) :: (4, true) :: (5, true) :: (6, true) :: (7, true) :: (8, true) :: (9, true) :: (10, true) :: (11, true) :: (12, true) :: (13, true) :: (14, false) :: (15, true) :: (16, true) :: (17, true) :: (18, true) :: (19, true) :: (20, true) :: (21, true) :: (22, true) :: (23, true) :: (24, true) :: (25, true) :: (26, true) :: (27, true) :: (28, true) :: (29, false) :: (30, true) :: (31, true) :: (32, true) :: []) (by kernel_rfl) (by kernel_rfl) (by kernel_rfl) (by decide) (fun _ _ _ _ _ h => h) (fun hHeld => ?_)
                    iterate 14 (first | (refine seq_take (v := ?_) rfl ?_ ?_ ?_; rotate_left 1; rfl; (focus (intro wS hSw; have hk := below_rule hSw; go_simp; first | done | with_reducible rfl)); (try simp only [Act.put, List.setIfInBounds_toArray, List.set_cons_zero, List.set_cons_succ])) | (refine seq_skip rfl ?_ ?_; rfl; (try simp only [Act.put, List.setIfInBounds_toArray, List.set_cons_zero, List.set_cons_succ])))
                    refine seq_run rfl (fun K hK => ?_)
                    go_simp
                    refine hK.out _ _ hHeld (fun _ => ?_)
                    (try simp only [Act.put, List.setIfInBounds_toArray, List.set_cons_zero, List.set_cons_succ])
                    clear hK K
                    iterate 14 (first | (refine seq_take (v := ?_) rfl ?_ ?_ ?_; rotate_left 1; rfl; (focus (intro wS hSw; have hk := below_rule hSw; go_simp; first | done | with_reducible rfl)); (try simp only [Act.put, List.setIfInBounds_toArray, List.set_cons_zero, List.set_cons_succ])) | (refine seq_skip rfl ?_ ?_; rfl; (try simp only [Act.put, List.setIfInBounds_toArray, List.set_cons_zero, List.set_cons_succ])))
                    refine seq_run rfl (fun K hK => ?_)
                    go_simp
                    go_at_call 18
                    refine (HC1.out _).mono ?_
                    rintro r w9 ⟨rfl, hb'⟩
                    (try go_wp2_with fail)
                    refine hK.out _ _ (below_step hHeld hb') ?_
                    replace hHeld := below_step hHeld hb'
                    clear hb' hK K
                    intro _
                    (try simp only [Act.put, List.setIfInBounds_toArray, List.set_cons_zero, List.set_cons_succ])
                    iterate 3 (first | (refine seq_take (v := ?_) rfl ?_ ?_ ?_; rotate_left 1; rfl; (focus (intro wS hSw; have hk := below_rule hSw; go_simp; first | done | with_reducible rfl)); (try simp only [Act.put, List.setIfInBounds_toArray, List.set_cons_zero, List.set_cons_succ])) | (refine seq_skip rfl ?_ ?_; rfl; (try simp only [Act.put, List.setIfInBounds_toArray, List.set_cons_zero, List.set_cons_succ])))
                    refine seq_done ?_
                    go_wp2_with fail
                    have HO9 := Lib.hid (HO.out.later hHeld)
                    go_roundw
                    case rel => exact ⟨i + 1, nx', n' + 1, _, Y2, J', _, _, tk', by omega, by omega, by omega, rfl, by (rw [HLN.out]; try rfl), by go_num, HO9, HK2⟩
                    case measure => first | omega | (simp [RowKit.intOf]; done) | (simp [RowKit.intOf]; omega)
                  | ge gk =>
                    obtain ⟨G, hG⟩ : ∃ G, (m + 1) * (4 * N + 10) = G := ⟨_, rfl⟩
                    have hle : decide ((G : Int) < (o : Int)) = false := decide_eq_false (by have h : o ≤ (m + 1) * (4 * N + 10) := hlim; omega)
                    have hle3 : ¬ G < o := by have h : o ≤ (m + 1) * (4 * N + 10) := hlim; omega
                    have hle4 : decide (G < o) = false := decide_eq_false hle3
                    have hle2 : ¬ (G : Int) < (o : Int) := by have h : o ≤ (m + 1) * (4 * N + 10) := hlim; omega
                    have HC1 := Lib.hid (fun w => bget_nat HBN.out m G (by omega) hG w)
                    change wr.cell? _ = some (.bool true) at c6
                    clear hlim ho hG
                    go_wp2_with fail
                    refine wp_region_seq ((0, true) :: (1, true) :: (2, true) :: (3, true) :: (4, true) :: (5, true) :: (6, true) :: (7, true) :: (8, true) :: (9, true) :: (10, true) :: (11, true) :: (12, true) :: (13, true) :: (14, false) :: (15, true) :: (16, true) :: (17, true) :: (18, true) :: (19, true) :: (20, true) :: (21, true) :: (22, true) :: (23, true) :: (24, true) :: (25, true) :: (26, true) :: (27, true) :: (28, true) :: (29, false) :: (30, true) :: (31, true) :: (32, true) :: []) (by kernel_rfl) (by kernel_rfl) (by kernel_rfl) (by decide) (fun _ _ _ _ _ h => h) (fun hHeld => ?_)
                    iterate 14 (first | (refine seq_take (v := ?_) rfl ?_ ?_ ?_; rotate_left 1; rfl; (focus (intro wS hSw; have hk := below_rule hSw; go_simp; first | done | with_reducible rfl)); (try simp only [Act.put, List.setIfInBounds_toArray, List.set_cons_zero, List.set_cons_succ])) | (refine seq_skip rfl ?_ ?_; rfl; (try simp only [Act.put, List.setIfInBounds_toArray, List.set_cons_zero, List.set_cons_succ])))
                    refine seq_run rfl (fun K hK => ?_)
                    go_simp
                    go_at_call 17
                    refine (HC1.out _).mono ?_
                    rintro r w9 ⟨rfl, hb'⟩
                    (try go_wp2_with fail)
                    refine hK.out _ _ (below_step hHeld hb') ?_
                    replace hHeld := below_step hHeld hb'
                    clear hb' hK K
                    intro _
                    (try simp only [Act.put, List.setIfInBounds_toArray, List.set_cons_zero, List.set_cons_succ])
                    iterate 14 (first | (refine seq_take (v := ?_) rfl ?_ ?_ ?_; rotate_left 1; rfl; (focus (intro wS hSw; have hk := below_rule hSw; go_simp; first | done | with_reducible rfl)); (try simp only [Act.put, List.setIfInBounds_toArray, List.set_cons_zero, List.set_cons_succ])) | (refine seq_skip rfl ?_ ?_; rfl; (try simp only [Act.put, List.setIfInBounds_toArray, List.set_cons_zero, List.set_cons_succ])))
                    refine seq_run rfl (fun K hK => ?_)
                    go_simp
                    refine hK.out _ _ hHeld (fun _ => ?_)
                    (try simp only [Act.put, List.setIfInBounds_toArray, List.set_cons_zero, List.set_cons_succ])
                    clear hK K
                    iterate 3 (first | (refine seq_take (v := ?_) rfl ?_ ?_ ?_; rotate_left 1; rfl; (focus (intro wS hSw; have hk := below_rule hSw; go_simp; first | done | with_reducible rfl)); (try simp only [Act.put, List.setIfInBounds_toArray, List.set_cons_zero, List.set_cons_succ])) | (refine seq_skip rfl ?_ ?_; rfl; (try simp only [Act.put, List.setIfInBounds_toArray, List.set_cons_zero, List.set_cons_succ])))
                    refine seq_done ?_
                    go_wp2_with fail
                    have HO9 := Lib.hid (HO.out.later hHeld)
                    go_roundw
                    case rel => exact ⟨i + 1, nx', n' + 1, _, Y2, J', _, _, tk', by omega, by omega, by omega, rfl, by (rw [HLN.out]; try rfl), by go_num, HO9, HK2⟩
                    case measure => first | omega | (simp [RowKit.intOf]; done) | (simp [RowKit.intOf]; omega)
            · have hcp' : ¬ n0 = cap := fun e => hcp e.symm
              go_wp2_with fail
              generalize (l2.set 4 (tObj W.heap.size bo (fl T (nums (updN own' k (own' k + 1)))))) = l3 at HO3
              go_loopw [143] (fun ix wr => ix = .int .i64 0 ∧ Hid (OwnsAt W wr l3 ⟨yb, ytb, p, c, T, s, so, d, T⟩ N Y2 J' (n' + 1) bo bt bk (updN own' k (own' k + 1)) tn' tk')) (fun _ _ => 0)
              case atStart => exact ⟨rfl, HO3⟩
              case round =>
                clear HO3
                obtain ⟨rfl, HO3⟩ := hrel
                have HO : Hid (OwnsAt W wr l3 ⟨yb, ytb, p, c, T, s, so, d, T⟩ N Y2 J' (n' + 1) bo bt bk (updN own' k (own' k + 1)) (othN tn' k 0) tk') := Lib.hid (HO3.out.eq5 (fl_same (fun j _ => by unfold nums othN; split; rename_i e; rw [e]; rfl)))
                clear HO3
                as_aux_lemma =>
                  obtain ⟨q0, q1, q2, q3⟩ := HA.out.later HO.out.yd.h.below Hs.out
                  have c6 : wr.cell? ⟨bk, k, none⟩ = some (.bool (tk' k)) := HO.out.o6.at' k _ (fl_at hkT)
                  have c4 : wr.cell? ⟨bo, k, none⟩ = some (.int .i64 ((updN own' k (own' k + 1)) k : Nat)) := HO.out.o4.at' k _ (fl_at hkT)
                  have c5 : wr.cell? ⟨bt, k, none⟩ = some (.int .i64 ((othN tn' k 0) k : Nat)) := HO.out.o5.at' k _ (fl_at hkT)
                  rw [updN_same] at c4
                  rw [othN_same] at c5
                  rw [HKD.out] at c6
                  have hlim := HLIM.out
                  obtain ⟨o, ho⟩ : ∃ o, own' k + 1 = o := ⟨_, rfl⟩
                  rw [ho] at c4 hlim
                  generalize tn' k = m at c5 hown2 hlim
                  cases K with
                  | pu gk =>
                    have hle : decide ((Q : Int) < (o : Int)) = false := decide_eq_false (by have h : o ≤ Q := hlim; omega)
                    have hle2 : ¬ (Q : Int) < (o : Int) := by have h : o ≤ Q := hlim; omega
                    have HC1 := Lib.hid (fun w => bput_any HBN.out w)
                    change wr.cell? _ = some (.bool false) at c6
                    clear hlim ho
                    go_wp2_with fail
                    refine wp_region_seq ((0, true) :: (1, true) :: (2, true) :: (3, true) :: (4, true) :: (5, true) :: (6, true) :: (7, true) :: (8, true) :: (9, true) :: (10, true) :: (11, true) :: (12, true) :: (13, true) :: (14, false) :: (15, true) :: (16, true) :: (17, true) :: (18, true) :: (19, true) :: (20, true) :: (21, true) :: (22, true) :: (23, true) :: (24, true) :: (25, true) :: (26, true) :: (27, true) :: (28, true) :: (29, false) :: (30, true) :: (31, true) :: (32, true) :: []) (by kernel_rfl) (by kernel_rfl) (by kernel_rfl) (by decide) (fun _ _ _ _ _ h => h) (fun hHeld => ?_)
                    iterate 14 (first | (refine seq_take (v := ?_) rfl ?_ ?_ ?_; rotate_left 1; rfl; (focus (intro wS hSw; have hk := below_rule hSw; go_simp; first | done | with_reducible rfl)); (try simp only [Act.put, List.setIfInBounds_toArray, List.set_cons_zero, List.set_cons_succ])) | (refine seq_skip rfl ?_ ?_; rfl; (try simp only [Act.put, List.setIfInBounds_toArray, List.set_cons_zero, List.set_cons_succ])))
                    refine seq_run rfl (fun K hK => ?_)
                    go_simp
                    refine hK.out _ _ hHeld (fun _ => ?_)
                    (try simp only [Act.put, List.setIfInBounds_toArray, List.set_cons_zero, List.set_cons_succ])
                    clear hK K
                    iterate 14 (first | (refine seq_take (v := ?_) rfl ?_ ?_ ?_; rotate_left 1; rfl; (focus (intro wS hSw; have hk := below_rule hSw; go_simp; first | done | with_reducible rfl)); (try simp only [Act.put, List.setIfInBounds_toArray, List.set_cons_zero, List.set_cons_succ])) | (refine seq_skip rfl ?_ ?_; rfl; (try simp only [Act.put, List.setIfInBounds_toArray, List.set_cons_zero, List.set_cons_succ])))
                    refine seq_run rfl (fun K hK => ?_)
                    go_simp
                    go_at_call 18
                    refine (HC1.out _).mono ?_
                    rintro r w9 ⟨rfl, hb'⟩
                    (try go_wp2_with fail)
                    refine hK.out _ _ (below_step hHeld hb') ?_
                    replace hHeld := below_step hHeld hb'
                    clear hb' hK K
                    intro _
                    (try simp only [Act.put, List.setIfInBounds_toArray, List.set_cons_zero, List.set_cons_succ])
                    iterate 3 (first | (refine seq_take (v := ?_) rfl ?_ ?_ ?_; rotate_left 1; rfl; (focus (intro wS hSw; have hk := below_rule hSw; go_simp; first | done | with_reducible rfl)); (try simp only [Act.put, List.setIfInBounds_toArray, List.set_cons_zero, List.set_cons_succ])) | (refine seq_skip rfl ?_ ?_; rfl; (try simp only [Act.put, List.setIfInBounds_toArray, List.set_cons_zero, List.set_cons_succ])))
                    refine seq_done ?_
                    go_wp2_with fail
                    have HO9 := Lib.hid (HO.out.later hHeld)
                    go_roundw
                    case rel => exact ⟨i + 1, nx', n' + 1, _, Y2, J', _, _, tk', by omega, by omega, by omega, rfl, by (rw [HLN.out]; try rfl), by go_num, HO9, HK2⟩
                    case measure => first | omega | (simp [RowKit.intOf]; done) | (simp [RowKit.intOf]; omega)
                  | ge gk =>
                    obtain ⟨G, hG⟩ : ∃ G, (m + 1) * (4 * N + 10) = G := ⟨_, rfl⟩
                    have hle : decide ((G : Int) < (o : Int)) = false := decide_eq_false (by have h : o ≤ (m + 1) * (4 * N + 10) := hlim; omega)
                    have hle3 : ¬ G < o := by have h : o ≤ (m + 1) * (4 * N + 10) := hlim; omega
                    have hle4 : decide (G < o) = false := decide_eq_false hle3
                    have hle2 : ¬ (G : Int) < (o : Int) := by have h : o ≤ (m + 1) * (4 * N + 10) := hlim; omega
                    have HC1 := Lib.hid (fun w => bget_nat HBN.out m G (by omega) hG w)
                    change wr.cell? _ = some (.bool true) at c6
                    clear hlim ho hG
                    go_wp2_with fail
                    refine wp_region_seq ((0, true) :: (1, true) :: (2, true) :: (3, true) :: (4, true) :: (5, true) :: (6, true) :: (7, true) :: (8, true) :: (9, true) :: (10, true) :: (11, true) :: (12, true) :: (13, true) :: (14, false) :: (15, true) :: (16, true) :: (17, true) :: (18, true) :: (19, true) :: (20, true) :: (21, true) :: (22, true) :: (23, true) :: (24, true) :: (25, true) :: (26, true) :: (27, true) :: (28, true) :: (29, false) :: (30, true) :: (31, true) :: (32, true) :: []) (by kernel_rfl) (by kernel_rfl) (by kernel_rfl) (by decide) (fun _ _ _ _ _ h => h) (fun hHeld => ?_)
                    iterate 14 (first | (refine seq_take (v := ?_) rfl ?_ ?_ ?_; rotate_left 1; rfl; (focus (intro wS hSw; have hk := below_rule hSw; go_simp; first | done | with_reducible rfl)); (try simp only [Act.put, List.setIfInBounds_toArray, List.set_cons_zero, List.set_cons_succ])) | (refine seq_skip rfl ?_ ?_; rfl; (try simp only [Act.put, List.setIfInBounds_toArray, List.set_cons_zero, List.set_cons_succ])))
                    refine seq_run rfl (fun K hK => ?_)
                    go_simp
                    go_at_call 17
                    refine (HC1.out _).mono ?_
                    rintro r w9 ⟨rfl, hb'⟩
                    (try go_wp2_with fail)
                    refine hK.out _ _ (below_step hHeld hb') ?_
                    replace hHeld := below_step hHeld hb'
                    clear hb' hK K
                    intro _
                    (try simp only [Act.put, List.setIfInBounds_toArray, List.set_cons_zero, List.set_cons_succ])
                    iterate 14 (first | (refine seq_take (v := ?_) rfl ?_ ?_ ?_; rotate_left 1; rfl; (focus (intro wS hSw; have hk := below_rule hSw; go_simp; first | done | with_reducible rfl)); (try simp only [Act.put, List.setIfInBounds_toArray, List.set_cons_zero, List.set_cons_succ])) | (refine seq_skip rfl ?_ ?_; rfl; (try simp only [Act.put, List.setIfInBounds_toArray, List.set_cons_zero, List.set_cons_succ])))
                    refine seq_run rfl (fun K hK => ?_)
                    go_simp
                    refine hK.out _ _ hHeld (fun _ => ?_)
                    (try simp only [Act.put, List.setIfInBounds_toArray, List.set_cons_zero, List.set_cons_succ])
                    clear hK K
                    iterate 3 (first | (refine seq_take (v := ?_) rfl ?_ ?_ ?_; rotate_left 1; rfl; (focus (intro wS hSw; have hk := below_rule hSw; go_simp; first | done | with_reducible rfl)); (try simp only [Act.put, List.setIfInBounds_toArray, List.set_cons_zero, List.set_cons_succ])) | (refine seq_skip rfl ?_ ?_; rfl; (try simp only [Act.put, List.setIfInBounds_toArray, List.set_cons_zero, List.set_cons_succ])))
                    refine seq_done ?_
                    go_wp2_with fail
                    have HO9 := Lib.hid (HO.out.later hHeld)
                    go_roundw
                    case rel => exact ⟨i + 1, nx', n' + 1, _, Y2, J', _, _, tk', by omega, by omega, by omega, rfl, by (rw [HLN.out]; try rfl), by go_num, HO9, HK2⟩
                    case measure => first | omega | (simp [RowKit.intOf]; done) | (simp [RowKit.intOf]; omega)
          · obtain ⟨hlim, hK2⟩ := HK.out.step HO.out.yd.ok (fun _ => rfl) HQ.out hz HO.out.yd.fit (dl := turnN N e) (turnN_le N e) hT
            have hL2 : (Y'.step (plOf ⟨yb, ytb, p, c, T, s, so, d, T⟩ N k) k K ii z).L = Y'.L ++ [e] := by
              show Y'.L ++ _ = _
              rw [hE]
            have HK2 := Lib.hid hK2
            have HLIM := Lib.hid hlim
            have hLl : (Y'.step (plOf ⟨yb, ytb, p, c, T, s, so, d, T⟩ N k) k K ii z).L.length = n0 + 1 := by rw [hL2, List.length_append, HN0.out]; rfl
            have HLN := Lib.hid hLl
            rw [hLl] at hcap HROW ⊢
            obtain ⟨g, cap', hv⟩ := own_at HROW.out (by omega)
            cases hv
            have hce : ∀ j v, j < 6 → e.cells[j]? = some v → w8.cell? ⟨g, n0 * 6 + j, none⟩ = some v := fun j v hj hv => (HROW.out.cellAt (n0 * 6 + j) (by omega)).trans (by rw [hL2, ← HN0.out]; exact flatE_lastj _ _ _ hv)
            have e0 : w8.cell? ⟨g, n0 * 6, none⟩ = _ := hce 0 _ (by decide) rfl
            have e1 := hce 1 _ (by decide) rfl
            have e2 := hce 2 _ (by decide) rfl
            have e3 := hce 3 _ (by decide) rfl
            have e4 := hce 4 _ (by decide) rfl
            have e5 := hce 5 _ (by decide) rfl
            have hgl : g < w8.heap.size := World.block_lt_of_cell? w8 _ e0
            generalize Y'.step (plOf ⟨yb, ytb, p, c, T, s, so, d, T⟩ N k) k K ii z = Y2 at HO3 HK2 HLN HHD
            clear hE hT hL2 hLl hK2 hlim HO HK HQ hz HHD hce HROW
            have hcp : ¬ cap = n0 := by omega
            have hcp' : ¬ n0 = cap := by omega
            have hmin : min (n0 : Int) ((n0 : Int) + 1) = (n0 : Int) := by omega
            go_wp2_with fail
            generalize (l2.set 4 (tObj W.heap.size bo (fl T (nums (updN own' k (own' k + 1)))))) = l3 at HO3
            have HLP : Hid (LoopAt w8 g (n0 * 6) e 0 tn' tn' (othN tn' k (turnN N e))) := Lib.hid (.inl ⟨rfl, rfl, e0, e1, e2, e3, e4, e5⟩)
            clear e0 e1 e2 e3 e4 e5 hgl hmin
            go_loopw [143] (fun ix wr => ∃ (q : Nat) (l4 : List Thing) (tn2 : Nat → Nat), q ≤ 1 ∧ ix = .int .i64 q ∧ Hid (OwnsAt W wr l4 ⟨yb, ytb, p, c, T, s, so, d, T⟩ N Y2 J' (n' + 1) bo bt bk (updN own' k (own' k + 1)) tn2 tk') ∧ Hid (LoopAt wr g (n0 * 6) e q tn2 tn' (othN tn' k (turnN N e)))) (fun ix _ => 1 - (RowKit.intOf ix).toNat)
            case atStart => exact ⟨0, _, _, Nat.zero_le _, rfl, HO3, HLP⟩
            case round =>
              clear HO3 HLP
              obtain ⟨q, l4, tn2, hq1, rfl, HO, HLP⟩ := hrel
              rcases HLP.out with ⟨rfl, rfl, hat⟩ | ⟨rfl, rfl⟩
              · clear HLP
                rw [show ((0 : Nat) : Int) = 0 from rfl]
                obtain ⟨e0, e1, e2, e3, e4, e5⟩ := hat
                have hgl : g < wr.heap.size := World.block_lt_of_cell? wr _ e0
                have hb := below_new (Below.refl wr.heap.size wr) (.cells #[.int .i64 e.who, .int .i64 e.op, .int .i64 e.cell, .int .u64 e.old, .int .u64 e.new, .bool e.ok] 53)
                obtain ⟨hM, hR⟩ := HO.out.more (A := tObj W.heap.size wr.heap.size [.int .i64 e.who, .int .i64 e.op, .int .i64 e.cell, .int .u64 e.old, .int .u64 e.new, .bool e.ok]) hb (tObj_ok _ _ _) ⟨IsObj.made wr [.int .i64 e.who, .int .i64 e.op, .int .i64 e.cell, .int .u64 e.old, .int .u64 e.new, .bool e.ok] 53, HO.out.yd.h.size⟩ (fun q hq => by cases hq; exact Nat.le_refl _)
                have HM := Lib.hid hM
                have HXR := Lib.hid hR
                have hjx := HO.out.r6.lt
                clear hb hM hR HO
                go_wp2_with fail
                generalize wr.alloc (.cells #[.int .i64 e.who, .int .i64 e.op, .int .i64 e.cell, .int .u64 e.old, .int .u64 e.new, .bool e.ok] 53) = wv at HM ⊢
                generalize wr.heap.size = eb at HM HXR ⊢
                generalize l4 ++ [tObj W.heap.size eb [.int .i64 e.who, .int .i64 e.op, .int .i64 e.cell, .int .u64 e.old, .int .u64 e.new, .bool e.ok]] = l5 at HM HXR
                generalize l4.length = jx at hjx HXR
                clear e0 e1 e2 e3 e4 e5 hgl
                have HM0 : Hid (OwnsAt W wv l5 ⟨yb, ytb, p, c, T, s, so, d, T⟩ N Y2 J' (n' + 1) bo bt bk (updN own' k (own' k + 1)) (othQ tn2 k (turnN N e) 0) tk') := Lib.hid (by rw [othQ_zero]; exact HM.out)
                clear HM
                go_loopw [27] (fun tv wr => ∃ (u : Nat) (l6 : List Thing), u ≤ T ∧ tv = .int .i64 u ∧ Hid (OwnsAt W wr l6 ⟨yb, ytb, p, c, T, s, so, d, T⟩ N Y2 J' (n' + 1) bo bt bk (updN own' k (own' k + 1)) (othQ tn2 k (turnN N e) u) tk') ∧ Hid (Rest Y2 l6 J' jx (tObj W.heap.size eb [.int .i64 e.who, .int .i64 e.op, .int .i64 e.cell, .int .u64 e.old, .int .u64 e.new, .bool e.ok]))) (fun tv _ => 100 - (RowKit.intOf tv).toNat)
                case atStart => exact ⟨0, l5, Nat.zero_le _, rfl, HM0, HXR⟩
                case round =>
                  clear HM0 HXR
                  obtain ⟨u, l6, huT, rfl, HO, HXR⟩ := hrel
                  obtain ⟨q0, q1, q2, q3⟩ := HA.out.later HO.out.yd.h.below Hs.out
                  rcases Nat.lt_or_ge u T with hu | hu
                  · have hu' : (u : Int) < (T : Int) := by omega
                    rcases Nat.decEq u k with huk | rfl
                    · have hne : ((u : Int) != (k : Int)) = true := bne_iff_ne.2 (by omega)
                      have hne2 : ((u : Int) == (k : Int)) = false := beq_false_of_ne (by omega)
                      have ob := (HO.out.yd.has HXR.out).1
                      obtain ⟨e0, e1, e2, e3, e4, e5⟩ : _ ∧ _ ∧ _ ∧ _ ∧ _ ∧ _ := ⟨ob.at' 0 _ rfl, ob.at' 1 _ rfl, ob.at' 2 _ rfl, ob.at' 3 _ rfl, ob.at' 4 _ rfl, ob.at' 5 _ rfl⟩
                      clear ob
                      go_wp2_with fail
                      refine (turned_any HLAY.out e _).mono ?_
                      rintro r w9 ⟨rfl, hb⟩
                      replace HO := Lib.hid (HO.out.later hb)
                      clear hb q0 q1 q2 q3 e0 e1 e2 e3 e4 e5
                      cases ht : isTurn N e with
                      | false =>
                        have HO9 := Lib.hid (HO.out.eq5 (tn' := othQ tn2 k (turnN N e) (u + 1)) (othQ_same (by rw [othN_other huk, turnN_no ht]; rfl)).symm)
                        clear ht HO
                        go_wp2_with fail
                        go_roundw
                        case rel => exact ⟨u + 1, l6, by omega, by go_num, HO9, HXR⟩
                        case measure => first | omega | (simp [RowKit.intOf]; done) | (simp [RowKit.intOf]; omega)
                      | true =>
                        have c5 : w9.cell? ⟨bt, u, none⟩ = some (.int .i64 ((othQ tn2 k (turnN N e)) u u : Nat)) := HO.out.o5.at' u _ (fl_at hu)
                        rw [othQ_at] at c5
                        have f5 := HO.out.o5.fz u
                        have htb := hown3 u
                        have hwu : IntKind.i64.wrap ((tn2 u : Int) + 1) = (tn2 u : Int) + 1 := IntWalk.i64_in _ (by omega)
                        have HO9 : Hid (OwnsAt W (w9.setCell ⟨bt, u, none⟩ (.int .i64 ((tn2 u : Int) + 1))) _ ⟨yb, ytb, p, c, T, s, so, d, T⟩ N Y2 J' (n' + 1) bo bt bk (updN own' k (own' k + 1)) (othQ tn2 k (turnN N e) (u + 1)) tk') := Lib.hid (HO.out.set5 (k := u) (v := tn2 u + 1) (othQ_set hu (by rw [othN_other huk, turnN_yes ht])))
                        have HXR9 := Lib.hid (HXR.out.set (j := 5) (by omega) (tObj W.heap.size bt (fl T (nums (othQ tn2 k (turnN N e) (u + 1))))))
                        clear ht HO HXR htb
                        generalize tn2 u = m5 at c5 hwu HO9
                        go_wp2_with fail
                        go_roundw
                        case rel => exact ⟨u + 1, _, by omega, by go_num, HO9, HXR9⟩
                        case measure => first | omega | (simp [RowKit.intOf]; done) | (simp [RowKit.intOf]; omega)
                    · have HO9 := Lib.hid (HO.out.eq5 (tn' := othQ tn2 u (turnN N e) (u + 1)) (othQ_same (othN_same _ _ _)).symm)
                      clear HO
                      go_wp2_with fail
                      go_roundw
                      case rel => exact ⟨u + 1, l6, by omega, by go_num, HO9, HXR⟩
                      case measure => first | omega | (simp [RowKit.intOf]; done) | (simp [RowKit.intOf]; omega)
                  · obtain rfl : u = T := by omega
                    have hnn : ¬ (u : Int) < (u : Int) := by omega
                    have HO9 := Lib.hid (HO.out.eq5 (tn' := othN tn2 k (turnN N e)) (othQ_all _ _ _))
                    clear HO
                    go_wp2_with fail
                    go_roundw
                    case rel => exact ⟨1, l6, _, Nat.le_refl _, by go_num, HO9, Lib.hid (.inr ⟨rfl, rfl⟩)⟩
                    case measure => first | omega | (simp [RowKit.intOf]; done) | (simp [RowKit.intOf]; omega)
              · clear HLP
                rw [show ((1 : Nat) : Int) = 1 from rfl]
                as_aux_lemma =>
                  obtain ⟨q0, q1, q2, q3⟩ := HA.out.later HO.out.yd.h.below Hs.out
                  have c6 : wr.cell? ⟨bk, k, none⟩ = some (.bool (tk' k)) := HO.out.o6.at' k _ (fl_at hkT)
                  have c4 : wr.cell? ⟨bo, k, none⟩ = some (.int .i64 ((updN own' k (own' k + 1)) k : Nat)) := HO.out.o4.at' k _ (fl_at hkT)
                  have c5 : wr.cell? ⟨bt, k, none⟩ = some (.int .i64 ((othN tn' k (turnN N e)) k : Nat)) := HO.out.o5.at' k _ (fl_at hkT)
                  rw [updN_same] at c4
                  rw [othN_same] at c5
                  rw [HKD.out] at c6
                  have hlim := HLIM.out
                  obtain ⟨o, ho⟩ : ∃ o, own' k + 1 = o := ⟨_, rfl⟩
                  rw [ho] at c4 hlim
                  generalize tn' k = m at c5 hown2 hlim
                  cases K with
                  | pu gk =>
                    have hle : decide ((Q : Int) < (o : Int)) = false := decide_eq_false (by have h : o ≤ Q := hlim; omega)
                    have hle2 : ¬ (Q : Int) < (o : Int) := by have h : o ≤ Q := hlim; omega
                    have HC1 := Lib.hid (fun w => bput_any HBN.out w)
                    change wr.cell? _ = some (.bool false) at c6
                    clear hlim ho
                    go_wp2_with fail
                    refine wp_region_seq ((0, true) :: (1, true) :: (2, true) :: (3, true) :: (4, true) :: (5, true) :: (6, true) :: (7, true) :: (8, true) :: (9, true) :: (10, true) :: (11, true) :: (12, true) :: (13, true) :: (14, false) :: (15, true) :: (16, true) :: (17, true) :: (18, true) :: (19, true) :: (20, true) :: (21, true) :: (22, true) :: (23, true) :: (24, true) :: (25, true) :: (26, true) :: (27, true) :: (28, true) :: (29, false) :: (30, true) :: (31, true) :: (32, true) :: []) (by kernel_rfl) (by kernel_rfl) (by kernel_rfl) (by decide) (fun _ _ _ _ _ h => h) (fun hHeld => ?_)
                    iterate 14 (first | (refine seq_take (v := ?_) rfl ?_ ?_ ?_; rotate_left 1; rfl; (focus (intro wS hSw; have hk := below_rule hSw; go_simp; first | done | with_reducible rfl)); (try simp only [Act.put, List.setIfInBounds_toArray, List.set_cons_zero, List.set_cons_succ])) | (refine seq_skip rfl ?_ ?_; rfl; (try simp only [Act.put, List.setIfInBounds_toArray, List.set_cons_zero, List.set_cons_succ])))
                    refine seq_run rfl (fun K hK => ?_)
                    go_simp
                    refine hK.out _ _ hHeld (fun _ => ?_)
                    (try simp only [Act.put, List.setIfInBounds_toArray, List.set_cons_zero, List.set_cons_succ])
                    clear hK K
                    iterate 14 (first | (refine seq_take (v := ?_) rfl ?_ ?_ ?_; rotate_left 1; rfl; (focus (intro wS hSw; have hk := below_rule hSw; go_simp; first | done | with_reducible rfl)); (try simp only [Act.put, List.setIfInBounds_toArray, List.set_cons_zero, List.set_cons_succ])) | (refine seq_skip rfl ?_ ?_; rfl; (try simp only [Act.put, List.setIfInBounds_toArray, List.set_cons_zero, List.set_cons_succ])))
                    refine seq_run rfl (fun K hK => ?_)
                    go_simp
                    go_at_call 18
                    refine (HC1.out _).mono ?_
                    rintro r w9 ⟨rfl, hb'⟩
                    (try go_wp2_with fail)
                    refine hK.out _ _ (below_step hHeld hb') ?_
                    replace hHeld := below_step hHeld hb'
                    clear hb' hK K
                    intro _
                    (try simp only [Act.put, List.setIfInBounds_toArray, List.set_cons_zero, List.set_cons_succ])
                    iterate 3 (first | (refine seq_take (v := ?_) rfl ?_ ?_ ?_; rotate_left 1; rfl; (focus (intro wS hSw; have hk := below_rule hSw; go_simp; first | done | with_reducible rfl)); (try simp only [Act.put, List.setIfInBounds_toArray, List.set_cons_zero, List.set_cons_succ])) | (refine seq_skip rfl ?_ ?_; rfl; (try simp only [Act.put, List.setIfInBounds_toArray, List.set_cons_zero, List.set_cons_succ])))
                    refine seq_done ?_
                    go_wp2_with fail
                    have HO9 := Lib.hid (HO.out.later hHeld)
                    go_roundw
                    case rel => exact ⟨i + 1, nx', n' + 1, _, Y2, J', _, _, tk', by omega, by omega, by omega, rfl, by (rw [HLN.out]; try rfl), by go_num, HO9, HK2⟩
                    case measure => first | omega | (simp [RowKit.intOf]; done) | (simp [RowKit.intOf]; omega)
                  | ge gk =>
                    obtain ⟨G, hG⟩ : ∃ G, (m + 1) * (4 * N + 10) = G := ⟨_, rfl⟩
                    have hle : decide ((G : Int) < (o : Int)) = false := decide_eq_false (by have h : o ≤ (m + 1) * (4 * N + 10) := hlim; omega)
                    have hle3 : ¬ G < o := by have h : o ≤ (m + 1) * (4 * N + 10) := hlim; omega
                    have hle4 : decide (G < o) = false := decide_eq_false hle3
                    have hle2 : ¬ (G : Int) < (o : Int) := by have h : o ≤ (m + 1) * (4 * N + 10) := hlim; omega
                    have HC1 := Lib.hid (fun w => bget_nat HBN.out m G (by omega) hG w)
                    change wr.cell? _ = some (.bool true) at c6
                    clear hlim ho hG
                    go_wp2_with fail
                    refine wp_region_seq ((0, true) :: (1, true) :: (2, true) :: (3, true) :: (4, true) :: (5, true) :: (6, true) :: (7, true) :: (8, true) :: (9, true) :: (10, true) :: (11, true) :: (12, true) :: (13, true) :: (14, false) :: (15, true) :: (16, true) :: (17, true) :: (18, true) :: (19, true) :: (20, true) :: (21, true) :: (22, true) :: (23, true) :: (24, true) :: (25, true) :: (26, true) :: (27, true) :: (28, true) :: (29, false) :: (30, true) :: (31, true) :: (32, true) :: []) (by kernel_rfl) (by kernel_rfl) (by kernel_rfl) (by decide) (fun _ _ _ _ _ h => h) (fun hHeld => ?_)
                    iterate 14 (first | (refine seq_take (v := ?_) rfl ?_ ?_ ?_; rotate_left 1; rfl; (focus (intro wS hSw; have hk := below_rule hSw; go_simp; first | done | with_reducible rfl)); (try simp only [Act.put, List.setIfInBounds_toArray, List.set_cons_zero, List.set_cons_succ])) | (refine seq_skip rfl ?_ ?_; rfl; (try simp only [Act.put, List.setIfInBounds_toArray, List.set_cons_zero, List.set_cons_succ])))
                    refine seq_run rfl (fun K hK => ?_)
                    go_simp
                    go_at_call 17
                    refine (HC1.out _).mono ?_
                    rintro r w9 ⟨rfl, hb'⟩
                    (try go_wp2_with fail)
                    refine hK.out _ _ (below_step hHeld hb') ?_
                    replace hHeld := below_step hHeld hb'
                    clear hb' hK K
                    intro _
                    (try simp only [Act.put, List.setIfInBounds_toArray, List.set_cons_zero, List.set_cons_succ])
                    iterate 14 (first | (refine seq_take (v := ?_) rfl ?_ ?_ ?_; rotate_left 1; rfl; (focus (intro wS hSw; have hk := below_rule hSw; go_simp; first | done | with_reducible rfl)); (try simp only [Act.put, List.setIfInBounds_toArray, List.set_cons_zero, List.set_cons_succ])) | (refine seq_skip rfl ?_ ?_; rfl; (try simp only [Act.put, List.setIfInBounds_toArray, List.set_cons_zero, List.set_cons_succ])))
                    refine seq_run rfl (fun K hK => ?_)
                    go_simp
                    refine hK.out _ _ hHeld (fun _ => ?_)
                    (try simp only [Act.put, List.setIfInBounds_toArray, List.set_cons_zero, List.set_cons_succ])
                    clear hK K
                    iterate 3 (first | (refine seq_take (v := ?_) rfl ?_ ?_ ?_; rotate_left 1; rfl; (focus (intro wS hSw; have hk := below_rule hSw; go_simp; first | done | with_reducible rfl)); (try simp only [Act.put, List.setIfInBounds_toArray, List.set_cons_zero, List.set_cons_succ])) | (refine seq_skip rfl ?_ ?_; rfl; (try simp only [Act.put, List.setIfInBounds_toArray, List.set_cons_zero, List.set_cons_succ])))
                    refine seq_done ?_
                    go_wp2_with fail
                    have HO9 := Lib.hid (HO.out.later hHeld)
                    go_roundw
                    case rel => exact ⟨i + 1, nx', n' + 1, _, Y2, J', _, _, tk', by omega, by omega, by omega, rfl, by (rw [HLN.out]; try rfl), by go_num, HO9, HK2⟩
                    case measure => first | omega | (simp [RowKit.intOf]; done) | (simp [RowKit.intOf]; omega)
    · obtain rfl : i = 500 := by omega
      have hnn : ¬ (500 : Int) < (500 : Int) := by omega
      go_wp2_with fail
      go_ret
      exact ⟨rfl, below_step' HB.out HO.out.yd.h.below HB.out.size⟩
end Go.Proofs.YtgoncakjkippkabGreat
