/-
  YardMoves answers true for all lists and numbers, and leaves all memory that was there as it was. No condition.
-/
import Derived.Test.YthlmekkijknooaaGreatYardTwo
namespace Go.Proofs.YthlmekkijknooaaGreat
open Go.RowKit
set_option linter.unusedVariables false

/-- A move that lies in a block of its own, cell by cell. -/
structure AtM (w : World) (b : Nat) (x : Mv) : Prop where
  c0 : w.cell? ⟨b, 0, none⟩ = some (i64 x.kind)
  c1 : w.cell? ⟨b, 1, none⟩ = some (i64 x.who)
  c2 : w.cell? ⟨b, 2, none⟩ = some (.bool x.take)
  c3 : w.cell? ⟨b, 3, none⟩ = some (.bool x.right)
  c4 : w.cell? ⟨b, 4, none⟩ = some (u64 x.value)
  c5 : w.cell? ⟨b, 5, none⟩ = some (i64 x.start)
  c6 : w.cell? ⟨b, 6, none⟩ = some (i64 x.time)
theorem AtM.of {w : World} {b : Nat} {x : Mv} (h : IsObj w b x.list) : AtM w b x :=
  ⟨h.at' 0 _ rfl, h.at' 1 _ rfl, h.at' 2 _ rfl, h.at' 3 _ rfl, h.at' 4 _ rfl, h.at' 5 _ rfl, h.at' 6 _ rfl⟩
theorem kd_01 (b : Bool) : kdI b = 0 ∨ kdI b = 1 := by cases b; exact .inl rfl; exact .inr rfl
theorem ccells_nat' (T N : Nat) (s so d : Int) (w : World) (h : Lay T s N) : Calls Tryz.prog 13 #[cf T s so d] w fun r w' => r = .returned (i64 ((2 * N + 2 * T : Nat) : Int)) ∧ Below w.heap.size w w' := by
  rw [show ((2 * N + 2 * T : Nat) : Int) = 2 * (N : Int) + 2 * (T : Int) by omega]
  exact ccells_any T s so d N w h
theorem ydl_conf {W w : World} {l : List Thing} {B : YB} {N : Nat} {Y : Yd} {J : Nat → Nat} {n : Nat} (h : YdL W w l B N Y J n) : Calls Tryz.prog 11 #[pt B.yb] w fun r w' => r = .returned (cf B.t B.s B.so B.d) ∧ Below w.heap.size w w' := by
  obtain ⟨_, _, _, hA⟩ := h.h
  exact yconf_any hA

set_option maxRecDepth 100000 in
set_option maxHeartbeats 8000000 in
theorem walk_YardMoves (a0 : Int) (a1 : Int) (a2 : Int) (a3 : Int) (a4 : Option Addr) (len4 cap4 : Nat) (w : World) (w0 : (Lit.int .i64 a0).wf = true) (w1 : (Lit.int .i64 a1).wf = true) (w2 : (Lit.int .i64 a2).wf = true) (w3 : (Lit.int .i64 a3).wf = true) (w4 : IsRows w [.inl .i64, .inl .i64, .inr true, .inr true, .inl .u64, .inl .i64, .inl .i64] a4 len4 cap4) :
    Calls Tryz.prog 3 #[.int .i64 a0, .int .i64 a1, .int .i64 a2, .int .i64 a3, .slice a4 len4 cap4] w fun e w' => e = .returned (.bool true) ∧ Below w.heap.size w w' := by
  clear w0 w1 w2 w3
  rcases Nat.lt_or_ge 300 len4 with hbig | hs4
  · have hbig' : (300 : Int) < (len4 : Int) := by omega
    clear w4
    go_enter Tryz.func3, Tryz.ntmps3
    go_wp2_with fail
    refine (head13_any _).mono ?_
    rintro e w1 ⟨rfl, hb1⟩
    go_wp2_with fail
    go_ret
    exact ⟨rfl, hb1⟩
  have p4 : decide ((300 : Int) < (len4 : Int)) = false := decide_eq_false (by omega)
  obtain ⟨tb, off, X, hX⟩ := rows_mvs w4
  have HX0 : Hid (IsMvs w a4 len4 cap4 tb off X) := hX
  clear w4 hX
  go_enter Tryz.func3, Tryz.ntmps3
  go_wp2_with fail
  refine (head13_any _).mono ?_
  rintro e w1 ⟨rfl, hb1⟩
  go_wp2_with fail
  refine (conf4_any _ _ _ _ _).mono ?_
  rintro e w2 ⟨t, s, so, d, rfl, t1, t4, s1, s4, o0, o4, d0, d3, hb2⟩
  have hB2 := Lib.hid (below_step hb1 hb2)
  clear hb1 hb2
  obtain ⟨N, hNe, hlay, hN1, hN2⟩ := lay44 t1 t4 s1 s4
  clear hNe
  obtain ⟨T, rfl⟩ : ∃ T : Nat, t = T := ⟨t.toNat, by omega⟩
  go_wp2_with fail
  have hA := AtC.made w2 T s so d
  have hB3 := below_new (Below.refl w2.heap.size w2) (.cells #[.int .i64 T, .int .i64 s, .int .i64 so, .int .i64 d] 26)
  have hs3 : w2.heap.size < (w2.alloc (.cells #[.int .i64 T, .int .i64 s, .int .i64 so, .int .i64 d] 26)).heap.size := by simp
  have HA := Lib.hid hA
  have HB := Lib.hid (below_step hB2.out hB3)
  have Hs := Lib.hid hs3
  clear hA hB3 hs3 hB2
  generalize w2.alloc (.cells #[.int .i64 T, .int .i64 s, .int .i64 so, .int .i64 d] 26) = W at HA HB Hs ⊢
  generalize w2.heap.size = cb at HA Hs ⊢
  clear w2 w1
  have HX : Hid (IsMvs W a4 len4 cap4 tb off X) := Lib.hid (HX0.out.later HB.out (fun i hi => (HX0.out i hi).2.2.1))
  clear HX0
  refine (ynew_yes (W := W) T s so d N (Below.refl _ _) hlay o0 o4 d0 (by omega)).mono ?_
  rintro r w3 ⟨yb, ytb, p, c, l0, rfl, hl4, hY, hb, hyb⟩
  have HD0 := Lib.hid (YdL.start hlay o0 o4 d0 (by omega) hY)
  have HL4 := Lib.hid hl4
  clear hY hb hyb hl4
  go_wp2_with fail
  replace HD0 := Lib.hid (HD0.out.later (Below.refl _ _).drew)
  refine wp_region_seqS ((fun w' => AtC w' cb T s so d)) ((0, true) :: (1, true) :: (2, true) :: (3, true) :: (5, true) :: (4, false) :: (6, true) :: (7, true) :: []) (by kernel_rfl) (by kernel_rfl) (by kernel_rfl) (by decide) (fun _ _ _ _ _ h => h) ((HA.out.later HD0.out.h.below Hs.out)) ?_
  repeat (first | (refine seq_take (v := ?_) rfl ?_ ?_ ?_; rotate_left 1; rfl; (focus (intro wS hSw; obtain ⟨q0, q1, q2, q3⟩ := hSw; go_simp; first | done | with_reducible rfl)); (try simp only [Act.put, List.setIfInBounds_toArray, List.set_cons_zero, List.set_cons_succ])) | (refine seq_skip rfl ?_ ?_; rfl; (try simp only [Act.put, List.setIfInBounds_toArray, List.set_cons_zero, List.set_cons_succ])))
  refine seq_run rfl (fun K hK => ?_)
  go_simp
  go_at_call 11
  refine (ydl_conf HD0.out).mono ?_
  rintro r w4 ⟨rfl, hb⟩
  (try go_wp2_with fail)
  replace HD0 := Lib.hid (HD0.out.later hb)
  clear hb
  refine hK.out _ _ ((HA.out.later HD0.out.h.below Hs.out)) (fun _ => ?_)
  (try simp only [Act.put, List.setIfInBounds_toArray, List.set_cons_zero, List.set_cons_succ])
  clear hK K
  repeat (first | (refine seq_take (v := ?_) rfl ?_ ?_ ?_; rotate_left 1; rfl; (focus (intro wS hSw; obtain ⟨q0, q1, q2, q3⟩ := hSw; go_simp; first | done | with_reducible rfl)); (try simp only [Act.put, List.setIfInBounds_toArray, List.set_cons_zero, List.set_cons_succ])) | (refine seq_skip rfl ?_ ?_; rfl; (try simp only [Act.put, List.setIfInBounds_toArray, List.set_cons_zero, List.set_cons_succ])))
  refine seq_done ?_
  obtain ⟨q0, q1, q2, q3⟩ := HA.out.later HD0.out.h.below Hs.out
  go_wp2_with fail
  refine (ccells_nat' T N s so d _ hlay).mono ?_
  rintro r w5 ⟨rfl, hb⟩
  replace HD0 := Lib.hid (HD0.out.later hb)
  clear hb q0 q1 q2 q3
  go_wp2_with fail
  refine (new_nat W.heap.size (2 * N + 2 * T) _ _ HD0.out.h.size (by omega) (.inl rfl)).mono ?_
  rintro r w6 ⟨p', c', rfl, hM, hb, hp, hc⟩
  have HD1 := Lib.hid (HD0.out.more hb (tMem_ok _ _ _ _ _ _) hM (fun q hq => by
    rcases hq with rfl | rfl | hq
    · exact hp
    · exact hc
    · cases hq))
  clear hM hb hp hc HD0
  obtain ⟨ik, hk1, hk2, hk3, hk4⟩ := elem_tk.info
  obtain ⟨im, hm1, hm2, hm3, hm4⟩ := elem_i64.info
  obtain ⟨q0, q1, q2, q3⟩ := HA.out.later HD1.out.h.below Hs.out
  go_wp2_with (at_make; first | (refine wpList_make_full _ rfl _ _ 36 rfl W.heap.size 42 ik (.pointer none) 1 elem_tk.und hk1 hk2 hk3 .i64 .i64 _ _ T rfl rfl rfl rfl (by rw [hk4]; omega) (by unfold maxLen; omega) HD1.out.h.size ?_; intro w7 hown hg; rw [made_tk] at hown; have HD2 := Lib.hid (HD1.out.more ((Below.refl _ _).grown hg (Nat.le_refl _) (fun k hk => by cases hk)) (tObj_ok W.heap.size w6.heap.size (List.replicate T (.pointer none))) ⟨IsObj.row13 hown List.length_replicate, HD1.out.h.size⟩ (fun q hq => by cases hq; exact Nat.le_refl _)); clear hown hg q0 q1 q2 q3; obtain ⟨q0, q1, q2, q3⟩ := HA.out.later HD2.out.h.below Hs.out) | (refine wpList_make_full _ rfl _ _ 37 rfl W.heap.size 3 im (.int .i64 0) 1 elem_i64.und hm1 hm2 hm3 .i64 .i64 _ _ T rfl rfl rfl rfl (by rw [hm4]; omega) (by unfold maxLen; omega) HD2.out.h.size ?_; intro w8 hown hg; rw [made_in] at hown; have HD3 := Lib.hid (HD2.out.more ((Below.refl _ _).grown hg (Nat.le_refl _) (fun k hk => by cases hk)) (tObj_ok W.heap.size w7.heap.size (List.replicate T (.int .i64 0))) ⟨IsObj.row13 hown List.length_replicate, HD2.out.h.size⟩ (fun q hq => by cases hq; exact Nat.le_refl _)); clear hown hg q0 q1 q2 q3))
  clear ik hk1 hk2 hk3 hk4 im hm1 hm2 hm3 hm4 HD1 HD2
  have HD4 := Lib.hid (HD3.out.more (below_new (Below.refl _ _) (.cells #[] 55)) (tRow_ok _ _ _ _ _ _) (tRow_made w8 W.heap.size 55 11 HD3.out.h.size) tRow_new)
  have HT0 := Lib.hid (Tw.start (B := ⟨yb, ytb, p, c, T, s, so, d, T⟩) (Y := ⟨List.replicate (2 * N + 2 * T) 0, [], 0, 0, List.replicate T none, []⟩) (S := ⟨p', c', w6.heap.size, w7.heap.size⟩) HD4.out HL4.out rfl rfl rfl)
  have HN0 : Hid ((0 : Int) ≤ 65536 * (0 : Nat)) := Lib.hid (Int.le_refl _)
  clear HD3 HD4 HL4
  generalize w6.heap.size = tb1 at HT0 ⊢
  generalize w7.heap.size = mb1 at HT0 ⊢
  go_loopw [17, 18, 19, 65] (fun dv mv nv ix wr => ∃ (i : Nat) (l : List Thing) (Y : Yd) (J K : Nat → Nat) (v vd : Value) (X1 M1 : List Value), i ≤ len4 ∧ vd = dv ∧ mv = .int .i64 (Y.moves : Nat) ∧ nv = .int .i64 Y.now ∧ ix = .int .i64 i ∧ Hid (Tw W wr l ⟨yb, ytb, p, c, T, s, so, d, T⟩ N Y J i ⟨p', c', tb1, mb1⟩ Y K v vd X1 M1) ∧ Hid (Y.now ≤ 65536 * i)) (fun _ _ _ ix _ => len4 - (intOf ix).toNat)
  case atStart => exact ⟨0, _, _, _, _, _, _, _, _, Nat.zero_le _, rfl, rfl, rfl, rfl, HT0, HN0⟩
  case round =>
    clear HT0 HN0
    obtain ⟨i, l, Y, J, K, v, vd, X1, M1, hi4, rfl, rfl, rfl, rfl, HT, HN⟩ := hrel
    rcases Nat.lt_or_ge i len4 with hi | hi
    · have hi' : (i : Int) < (len4 : Int) := by omega
      obtain ⟨rfl, hcap, htb, hx, x0, x1⟩ := HX.out i hi
      have hx' := hx.later HT.out.below htb
      generalize X i = x at hx hx' x0 x1
      obtain ⟨e0, e1, e2, e3, e4, e5, e6⟩ := hx'
      clear hx
      obtain ⟨q0, q1, q2, q3⟩ := HA.out.later HT.out.below Hs.out
      obtain ⟨kk, hq, hk0, hk8⟩ : ∃ kk, bits .and .i64 x.kind 7 = kk ∧ 0 ≤ kk ∧ kk ≤ 7 := ⟨_, and_7' x.kind, by omega, by omega⟩
      obtain ⟨u, hu, u0, u1⟩ : ∃ u, bits .and .i64 x.who 65535 = u ∧ 0 ≤ u ∧ u ≤ 65535 := ⟨_, and_ffff x.who, by omega, by omega⟩
      obtain ⟨th, hth, hthT⟩ : ∃ th : Nat, u.tmod (T : Int) = (th : Int) ∧ th < T := by
        refine ⟨(u % (T : Int)).toNat, ?_, ?_⟩
        · rw [Int.tmod_eq_emod_of_nonneg u0]
          have := Int.emod_nonneg u (show (T : Int) ≠ 0 by omega)
          omega
        · have := Int.emod_nonneg u (show (T : Int) ≠ 0 by omega)
          have := Int.emod_lt_of_pos u (show 0 < (T : Int) by omega)
          omega
      have hcb : cb < wr.heap.size := Nat.lt_of_lt_of_le Hs.out HT.out.hold.size
      have HT1 : Hid (Tw W (wr.alloc (.cells #[.int .i64 x.kind, .int .i64 x.who, .bool x.take, .bool x.right, .int .u64 x.value, .int .i64 x.start, .int .i64 x.time] 41)) (l ++ [tObj W.heap.size wr.heap.size x.list]) ⟨yb, ytb, p, c, T, s, so, d, T⟩ N Y J i ⟨p', c', tb1, mb1⟩ Y K v vd X1 M1) := Lib.hid (HT.out.box x.list _).1
      have HR1 : Hid (Rest Y (l ++ [tObj W.heap.size wr.heap.size x.list]) J l.length (tObj W.heap.size wr.heap.size x.list)) := Lib.hid (HT.out.box x.list 41).2.1
      have HL8 : Hid (8 ≤ l.length) := Lib.hid HT.out.sd.len
      clear HT
      go_upto_region 30 with fail
      clear e0 e1 e2 e3 e4 e5 e6 q0 q1 q2 q3 hq hu hth hcb u0 u1
      generalize wr.alloc (.cells #[.int .i64 x.kind, .int .i64 x.who, .bool x.take, .bool x.right, .int .u64 x.value, .int .i64 x.start, .int .i64 x.time] 41) = w1 at HT1 ⊢
      generalize wr.heap.size = vb at HT1 HR1 ⊢
      generalize (l ++ [tObj W.heap.size vb x.list]) = l1 at HT1 HR1
      generalize l.length = jb at HR1 HL8
      have hth' : (th : Int) < (T : Int) := by omega
      obtain ⟨q, hqt⟩ : ∃ q, Y.ts[th]? = some q := ⟨_, List.getElem?_eq_getElem (by have := HT1.out.yd.ok.len; have : Y.ts.length = T := this; omega)⟩
      rcases (by omega : kk = 0 ∨ kk = 6 ∨ kk = 7 ∨ (kk ≠ 0 ∧ kk ≠ 6 ∧ kk ≠ 7)) with rfl | rfl | rfl | ⟨hk1, hk2, hk3⟩
      · cases q with
        | some a =>
          as_aux_lemma =>
            obtain ⟨bk, hb1, hb2⟩ := HT1.out.at' (T := a.1) (i := a.2) hqt
            have d0 := HT1.out.rowAt.at' _ _ hb1
            obtain ⟨e0, e1, e2, e3, e4, e5, e6⟩ := AtM.of (HT1.out.boxAt HR1.out)
            have HQ := Lib.hid hqt
            clear hb1 hb2 hqt
            go_wp2_with fail
            refine (mvcall_any x _ (kdI x.take) (kdI x.right) rfl rfl).mono ?_
            rintro r w2 ⟨rfl, hb⟩
            replace HT1 := Lib.hid (HT1.out.later hb)
            clear hb
            clear e0 e1 e2 e3 e4 e5 e6 d0
            go_wp2_with fail
            refine (HT1.out.callBusy th a HQ.out (kdI x.take) (kdI x.right) x.value x.start ⟨kd_01 _, kd_01 _⟩).mono ?_
            rintro r w3 ⟨rfl, hb⟩
            replace HT1 := Lib.hid (HT1.out.later hb)
            clear hb
            go_wp2_with fail
            refine (HT1.out.nowC Y.now rfl).mono ?_
            rintro r w9 ⟨rfl, hb⟩
            replace HT1 := Lib.hid (HT1.out.later hb)
            clear hb
            go_wp2_with fail
            go_roundw
            case rel => exact ⟨i + 1, l1, Y, J, K, v, _, X1, M1, by omega, rfl, rfl, rfl, by go_num, Lib.hid (HT1.out.rest1 (by omega)), Lib.hid (by have := HN.out; show _ ≤ _; omega)⟩
            case measure => first | omega | (simp [intOf]; done) | (simp [intOf]; omega)

        | none =>
          skip
          obtain ⟨A, cap, rfl⟩ := own_shape HT1.out.own
          have HLN : Hid (Y.ds.length ≤ 1000) := Lib.hid (by have := HT1.out.yd.ok.nds; have := HT1.out.yd.ok.most; omega)
          have hmvs := HT1.out.yd.ok.most
          have d0 := HT1.out.rowAt.at' _ _ (HT1.out.sd.idle th hqt)
          obtain ⟨e0, e1, e2, e3, e4, e5, e6⟩ := AtM.of (HT1.out.boxAt HR1.out)
          have HQ := Lib.hid hqt
          clear hqt
          go_wp2_with fail
          refine (mvcall_any x _ (kdI x.take) (kdI x.right) rfl rfl).mono ?_
          rintro r w2 ⟨rfl, hb⟩
          replace HT1 := Lib.hid (HT1.out.later hb)
          clear hb
          clear e0 e1 e2 e3 e4 e5 e6 d0
          go_wp2_with fail
          refine (HT1.out.callIdle (by omega) th HQ.out x.take rfl (kdI x.right) x.value x.start (kd_01 _) x0 x1).mono ?_
          rintro r w3 ⟨rfl, l2, J2, hT2, hg2⟩
          have HT2 := Lib.hid hT2
          have HR2 := Lib.hid (HR1.out.go hg2)
          clear hT2 hg2 HT1 HR1
          go_wp2_with fail
          replace HT2 := Lib.hid (HT2.out.later (Below.refl _ _).drew)
          refine wp_region_seqS ((fun w' => AtC w' cb T s so d ∧ AtM w' vb x)) ((0, true) :: (1, true) :: (2, true) :: (3, true) :: (4, true) :: (5, false) :: (6, false) :: (7, true) :: (8, false) :: []) (by kernel_rfl) (by kernel_rfl) (by kernel_rfl) (by decide) (fun _ _ _ _ _ h => h) (⟨HA.out.later HT2.out.below Hs.out, AtM.of (HT2.out.boxAt HR2.out)⟩) ?_
          repeat (first | (refine seq_take (v := ?_) rfl ?_ ?_ ?_; rotate_left 1; rfl; (focus (intro wS hSw; obtain ⟨⟨q0, q1, q2, q3⟩, ⟨e0, e1, e2, e3, e4, e5, e6⟩⟩ := hSw; go_simp; first | done | with_reducible rfl)); (try simp only [Act.put, List.setIfInBounds_toArray, List.set_cons_zero, List.set_cons_succ])) | (refine seq_skip rfl ?_ ?_; rfl; (try simp only [Act.put, List.setIfInBounds_toArray, List.set_cons_zero, List.set_cons_succ])))
          refine seq_run rfl (fun K hK => ?_)
          go_simp
          go_at_call 15
          refine (mvcall_any x _ (kdI x.take) (kdI x.right) rfl rfl).mono ?_
          rintro r w4 ⟨rfl, hb⟩
          (try go_wp2_with fail)
          replace HT2 := Lib.hid (HT2.out.later hb)
          clear hb
          refine hK.out _ _ (⟨HA.out.later HT2.out.below Hs.out, AtM.of (HT2.out.boxAt HR2.out)⟩) (fun _ => ?_)
          (try simp only [Act.put, List.setIfInBounds_toArray, List.set_cons_zero, List.set_cons_succ])
          clear hK K
          repeat (first | (refine seq_take (v := ?_) rfl ?_ ?_ ?_; rotate_left 1; rfl; (focus (intro wS hSw; obtain ⟨⟨q0, q1, q2, q3⟩, ⟨e0, e1, e2, e3, e4, e5, e6⟩⟩ := hSw; go_simp; first | done | with_reducible rfl)); (try simp only [Act.put, List.setIfInBounds_toArray, List.set_cons_zero, List.set_cons_succ])) | (refine seq_skip rfl ?_ ?_; rfl; (try simp only [Act.put, List.setIfInBounds_toArray, List.set_cons_zero, List.set_cons_succ])))
          refine seq_run rfl (fun K hK => ?_)
          go_simp
          go_at_call 16
          refine (HT2.out.tnew th hthT x.take rfl (kdI x.right) x.value x.start (kd_01 _)).mono ?_
          rintro r w5 ⟨b, B1, rfl, hH, hb⟩
          (try go_wp2_with fail)
          have HH := Lib.hid hH
          have HT3 := Lib.hid (HT2.out.later hb)
          obtain ⟨hn1, hn2⟩ := HT3.out.boxNe HR2.out HL8.out
          have hml := HT3.out.sd.ml
          obtain ⟨xv, hxv⟩ : ∃ xv, M1[th]? = some xv := ⟨_, List.getElem?_eq_getElem (by have : M1.length = T := hml; omega)⟩
          have d0 := HT3.out.rowAt.at' _ _ (HT3.out.sd.idle th HQ.out)
          have d1 := HT3.out.mineAt.at' _ _ hxv
          have f0 := HT3.out.rowAt.fz th
          have f1 := HT3.out.mineAt.fz th
          have hn3 : tb1 ≠ mb1 := HT3.out.ne56
          have HBS := Lib.hid (HT3.out.hold.has 5 _ HT3.out.sd.row).2
          clear hH hb hml hxv
          refine hK.out _ _ (⟨HA.out.later HT3.out.below Hs.out, AtM.of (HT3.out.boxAt HR2.out)⟩) (fun _ => ?_)
          (try simp only [Act.put, List.setIfInBounds_toArray, List.set_cons_zero, List.set_cons_succ])
          clear hK K
          repeat (first | (refine seq_take (v := ?_) rfl ?_ ?_ ?_; rotate_left 1; rfl; (focus (intro wS hSw; obtain ⟨⟨q0, q1, q2, q3⟩, ⟨e0, e1, e2, e3, e4, e5, e6⟩⟩ := hSw; go_simp; first | done | with_reducible rfl)); (try simp only [Act.put, List.setIfInBounds_toArray, List.set_cons_zero, List.set_cons_succ])) | (refine seq_skip rfl ?_ ?_; rfl; (try simp only [Act.put, List.setIfInBounds_toArray, List.set_cons_zero, List.set_cons_succ])))
          refine seq_run rfl (fun K hK => ?_)
          go_simp
          refine hK.out _ _ (⟨HA.out.later (below_set HT3.out.below HBS.out _) Hs.out, AtM.of ((HT3.out.boxAt HR2.out).other th _ hn1)⟩) (fun _ => ?_)
          (try simp only [Act.put, List.setIfInBounds_toArray, List.set_cons_zero, List.set_cons_succ])
          clear hK K
          refine seq_done ?_
          obtain ⟨e0, e1, e2, e3, e4, e5, e6⟩ := AtM.of (HT3.out.boxAt HR2.out)
          go_wp2_with fail
          have HT4 : Hid (Tw W ((w5.setCell ⟨tb1, th, none⟩ (.pointer (some ⟨b, 0, none⟩))).setCell ⟨mb1, th, none⟩ (.int .i64 (Y.ds.length : Nat))) _ ⟨yb, ytb, p, c, T, s, so, d, T⟩ N (Y.call th (kdI x.take) (kdI x.right) x.value x.start (wkB ⟨yb, ytb, p, c, T, s, so, d, T⟩ N th x.take (kdI x.right) x.value x.start)) J2 (i + 1) ⟨p', c', tb1, mb1⟩ _ _ v (.slice A Y.ds.length cap) _ _) := Lib.hid (HT2.out.begin (i := Y.ds.length) HQ.out HH.out)
          clear e0 e1 e2 e3 e4 e5 e6 d0 d1 f0 f1 hn1 hn2 hn3 HT2 HT3 HH HR2 HBS
          generalize ((w5.setCell ⟨tb1, th, none⟩ (.pointer (some ⟨b, 0, none⟩))).setCell ⟨mb1, th, none⟩ (.int .i64 (Y.ds.length : Nat))) = w6 at HT4 ⊢
          refine (mvcall_any x _ (kdI x.take) (kdI x.right) rfl rfl).mono ?_
          rintro r w7 ⟨rfl, hb⟩
          have HTa := Lib.hid ((HT4.out.later hb).later (below_new (Below.refl _ _) (.cells (Dd.list ⟨th, kdI x.take, kdI x.right, x.value, x.start, Y.moves, -1, false, 0, 0, 0⟩).toArray 55)))
          clear HT4 hb
          go_wp2_with (at_builtin; refine list_append_grew rfl _ _ 38 rfl W.heap.size 55 _ 11 88 elem_dd (.slice A Y.ds.length cap) Y.ds.length (flatD Y.ds) rfl HTa.out.own (some ⟨_, 0, none⟩) 1 1 (Dd.list ⟨th, kdI x.take, kdI x.right, x.value, x.start, Y.moves, -1, false, 0, 0, 0⟩) rfl (src_dd w7 _ ⟨th, kdI x.take, kdI x.right, x.value, x.start, Y.moves, -1, false, 0, 0, 0⟩ rfl) (by have := HLN.out; unfold maxLen; omega) (by have := HLN.out; omega) HTa.out.hold.size ?_; intro vd2 w8 hG; have HT1 := Lib.hid (HTa.out.addDeed ⟨th, kdI x.take, kdI x.right, x.value, x.start, Y.moves, -1, false, 0, 0, 0⟩ hG); clear hG)
          clear HTa
          refine (HT1.out.nowC Y.now rfl).mono ?_
          rintro r w9 ⟨rfl, hb⟩
          replace HT1 := Lib.hid (HT1.out.later hb)
          clear hb
          go_wp2_with fail
          go_roundw
          case rel => exact ⟨i + 1, _, Y.call th (kdI x.take) (kdI x.right) x.value x.start (wkB ⟨yb, ytb, p, c, T, s, so, d, T⟩ N th x.take (kdI x.right) x.value x.start), J2, _, v, _, _, _, by omega, rfl, by show Value.int .i64 _ = Value.int .i64 ((Y.moves + 1 : Nat) : Int); go_num, rfl, by go_num, Lib.hid (HT1.out.same rfl rfl rfl rfl), Lib.hid (by have := HN.out; show Y.now ≤ _; omega)⟩
          case measure => first | omega | (simp [intOf]; done) | (simp [intOf]; omega)

      · skip
        as_aux_lemma =>
          obtain ⟨m, hm, m0, m1⟩ : ∃ u, bits .and .i64 x.time 65535 = u ∧ 0 ≤ u ∧ u ≤ 65535 := ⟨_, and_ffff x.time, by omega, by omega⟩
          have n0 := HT1.out.yd.ok.now0
          have n1 : Y.now ≤ 20000000 := by have := HN.out; omega
          obtain ⟨e0, e1, e2, e3, e4, e5, e6⟩ := AtM.of (HT1.out.boxAt HR1.out)
          clear hqt
          go_wp2_with fail
          refine (HT1.out.pass (by omega) m m0 (by show _ ≤ (1099511627776 : Int); omega)).mono ?_
          rintro r w2 ⟨rfl, l2, hT2, hg2⟩
          have HT2 := Lib.hid hT2
          have HR2 := Lib.hid (HR1.out.go hg2)
          clear hT2 hg2 HR1 HT1 e0 e1 e2 e3 e4 e5 e6
          obtain ⟨e0, e1, e2, e3, e4, e5, e6⟩ := AtM.of (HT2.out.boxAt HR2.out)
          go_wp2_with fail
          clear e0 e1 e2 e3 e4 e5 e6
          have HT1 := Lib.hid (HT2.out.same (Z' := { Y with now := Y.now + m }) rfl rfl rfl rfl)
          clear HT2
          refine (HT1.out.nowC (Y.now + m) rfl).mono ?_
          rintro r w9 ⟨rfl, hb⟩
          replace HT1 := Lib.hid (HT1.out.later hb)
          clear hb
          go_wp2_with fail
          go_roundw
          case rel => exact ⟨i + 1, l2, { Y with now := Y.now + m }, J, K, v, _, X1, M1, by omega, rfl, rfl, rfl, by go_num, HT1, Lib.hid (by have := HN.out; show Y.now + m ≤ _; omega)⟩
          case measure => first | omega | (simp [intOf]; done) | (simp [intOf]; omega)

      · skip
        as_aux_lemma =>
          obtain ⟨m, hm, m0, m1⟩ : ∃ u, bits .and .i64 x.time 65535 = u ∧ 0 ≤ u ∧ u ≤ 65535 := ⟨_, and_ffff x.time, by omega, by omega⟩
          clear hqt
          go_wp2_with fail
          replace HT1 := Lib.hid (HT1.out.later (Below.refl _ _).drew)
          refine wp_region_seqS ((fun w' => AtC w' cb T s so d ∧ AtM w' vb x)) ((0, true) :: (1, true) :: (2, true) :: (3, false) :: (4, true) :: (5, true) :: (6, true) :: (7, true) :: (8, true) :: (9, true) :: (10, false) :: (11, false) :: (12, true) :: (13, true) :: (14, true) :: (15, true) :: (16, true) :: (17, false) :: (18, false) :: (19, true) :: (20, true) :: (21, true) :: (22, true) :: (23, false) :: (24, true) :: (25, true) :: (26, true) :: (27, true) :: (28, true) :: (29, false) :: (30, true) :: (31, true) :: (32, true) :: (33, false) :: (34, true) :: []) (by kernel_rfl) (by kernel_rfl) (by kernel_rfl) (by decide) (fun _ _ _ _ _ h => h) (⟨HA.out.later HT1.out.below Hs.out, AtM.of (HT1.out.boxAt HR1.out)⟩) ?_
          repeat (first | (refine seq_take (v := ?_) rfl ?_ ?_ ?_; rotate_left 1; rfl; (focus (intro wS hSw; obtain ⟨⟨q0, q1, q2, q3⟩, ⟨e0, e1, e2, e3, e4, e5, e6⟩⟩ := hSw; go_simp; first | done | with_reducible rfl)); (try simp only [Act.put, List.setIfInBounds_toArray, List.set_cons_zero, List.set_cons_succ])) | (refine seq_skip rfl ?_ ?_; rfl; (try simp only [Act.put, List.setIfInBounds_toArray, List.set_cons_zero, List.set_cons_succ])))
          refine seq_run rfl (fun K hK => ?_)
          go_simp
          go_at_call 14
          refine (HT1.out.callWrong th hthT 5 0 0 0 (by decide)).mono ?_
          rintro r w2 ⟨rfl, hb⟩
          (try go_wp2_with fail)
          replace HT1 := Lib.hid (HT1.out.later hb)
          clear hb
          refine hK.out _ _ (⟨HA.out.later HT1.out.below Hs.out, AtM.of (HT1.out.boxAt HR1.out)⟩) (fun _ => ?_)
          (try simp only [Act.put, List.setIfInBounds_toArray, List.set_cons_zero, List.set_cons_succ])
          clear hK K
          repeat (first | (refine seq_take (v := ?_) rfl ?_ ?_ ?_; rotate_left 1; rfl; (focus (intro wS hSw; obtain ⟨⟨q0, q1, q2, q3⟩, ⟨e0, e1, e2, e3, e4, e5, e6⟩⟩ := hSw; go_simp; first | done | with_reducible rfl)); (try simp only [Act.put, List.setIfInBounds_toArray, List.set_cons_zero, List.set_cons_succ])) | (refine seq_skip rfl ?_ ?_; rfl; (try simp only [Act.put, List.setIfInBounds_toArray, List.set_cons_zero, List.set_cons_succ])))
          refine seq_run rfl (fun K hK => ?_)
          go_simp
          go_at_call 15
          refine (mvcall_any x _ (kdI x.take) (kdI x.right) rfl rfl).mono ?_
          rintro r w2 ⟨rfl, hb⟩
          (try go_wp2_with fail)
          replace HT1 := Lib.hid (HT1.out.later hb)
          clear hb
          refine hK.out _ _ (⟨HA.out.later HT1.out.below Hs.out, AtM.of (HT1.out.boxAt HR1.out)⟩) (fun _ => ?_)
          (try simp only [Act.put, List.setIfInBounds_toArray, List.set_cons_zero, List.set_cons_succ])
          clear hK K
          repeat (first | (refine seq_take (v := ?_) rfl ?_ ?_ ?_; rotate_left 1; rfl; (focus (intro wS hSw; obtain ⟨⟨q0, q1, q2, q3⟩, ⟨e0, e1, e2, e3, e4, e5, e6⟩⟩ := hSw; go_simp; first | done | with_reducible rfl)); (try simp only [Act.put, List.setIfInBounds_toArray, List.set_cons_zero, List.set_cons_succ])) | (refine seq_skip rfl ?_ ?_; rfl; (try simp only [Act.put, List.setIfInBounds_toArray, List.set_cons_zero, List.set_cons_succ])))
          refine seq_run rfl (fun K hK => ?_)
          go_simp
          go_at_call 14
          refine (HT1.out.callOut (T : Nat) (.inr (Int.le_refl _)) (kdI x.take) (kdI x.right) x.value x.start).mono ?_
          rintro r w2 ⟨rfl, hb⟩
          (try go_wp2_with fail)
          replace HT1 := Lib.hid (HT1.out.later hb)
          clear hb
          refine hK.out _ _ (⟨HA.out.later HT1.out.below Hs.out, AtM.of (HT1.out.boxAt HR1.out)⟩) (fun _ => ?_)
          (try simp only [Act.put, List.setIfInBounds_toArray, List.set_cons_zero, List.set_cons_succ])
          clear hK K
          repeat (first | (refine seq_take (v := ?_) rfl ?_ ?_ ?_; rotate_left 1; rfl; (focus (intro wS hSw; obtain ⟨⟨q0, q1, q2, q3⟩, ⟨e0, e1, e2, e3, e4, e5, e6⟩⟩ := hSw; go_simp; first | done | with_reducible rfl)); (try simp only [Act.put, List.setIfInBounds_toArray, List.set_cons_zero, List.set_cons_succ])) | (refine seq_skip rfl ?_ ?_; rfl; (try simp only [Act.put, List.setIfInBounds_toArray, List.set_cons_zero, List.set_cons_succ])))
          refine seq_run rfl (fun K hK => ?_)
          go_simp
          go_at_call 15
          refine (mvcall_any x _ (kdI x.take) (kdI x.right) rfl rfl).mono ?_
          rintro r w2 ⟨rfl, hb⟩
          (try go_wp2_with fail)
          replace HT1 := Lib.hid (HT1.out.later hb)
          clear hb
          refine hK.out _ _ (⟨HA.out.later HT1.out.below Hs.out, AtM.of (HT1.out.boxAt HR1.out)⟩) (fun _ => ?_)
          (try simp only [Act.put, List.setIfInBounds_toArray, List.set_cons_zero, List.set_cons_succ])
          clear hK K
          repeat (first | (refine seq_take (v := ?_) rfl ?_ ?_ ?_; rotate_left 1; rfl; (focus (intro wS hSw; obtain ⟨⟨q0, q1, q2, q3⟩, ⟨e0, e1, e2, e3, e4, e5, e6⟩⟩ := hSw; go_simp; first | done | with_reducible rfl)); (try simp only [Act.put, List.setIfInBounds_toArray, List.set_cons_zero, List.set_cons_succ])) | (refine seq_skip rfl ?_ ?_; rfl; (try simp only [Act.put, List.setIfInBounds_toArray, List.set_cons_zero, List.set_cons_succ])))
          refine seq_run rfl (fun K hK => ?_)
          go_simp
          go_at_call 14
          refine (HT1.out.callOut (-1) (.inl (by decide)) (kdI x.take) (kdI x.right) x.value x.start).mono ?_
          rintro r w2 ⟨rfl, hb⟩
          (try go_wp2_with fail)
          replace HT1 := Lib.hid (HT1.out.later hb)
          clear hb
          refine hK.out _ _ (⟨HA.out.later HT1.out.below Hs.out, AtM.of (HT1.out.boxAt HR1.out)⟩) (fun _ => ?_)
          (try simp only [Act.put, List.setIfInBounds_toArray, List.set_cons_zero, List.set_cons_succ])
          clear hK K
          repeat (first | (refine seq_take (v := ?_) rfl ?_ ?_ ?_; rotate_left 1; rfl; (focus (intro wS hSw; obtain ⟨⟨q0, q1, q2, q3⟩, ⟨e0, e1, e2, e3, e4, e5, e6⟩⟩ := hSw; go_simp; first | done | with_reducible rfl)); (try simp only [Act.put, List.setIfInBounds_toArray, List.set_cons_zero, List.set_cons_succ])) | (refine seq_skip rfl ?_ ?_; rfl; (try simp only [Act.put, List.setIfInBounds_toArray, List.set_cons_zero, List.set_cons_succ])))
          refine seq_run rfl (fun K hK => ?_)
          go_simp
          go_at_call 18
          refine (HT1.out.stepOut (-1) (.inl (by decide))).mono ?_
          rintro r w2 ⟨rfl, rfl⟩
          (try go_wp2_with fail)
          refine hK.out _ _ (⟨HA.out.later HT1.out.below Hs.out, AtM.of (HT1.out.boxAt HR1.out)⟩) (fun _ => ?_)
          (try simp only [Act.put, List.setIfInBounds_toArray, List.set_cons_zero, List.set_cons_succ])
          clear hK K
          repeat (first | (refine seq_take (v := ?_) rfl ?_ ?_ ?_; rotate_left 1; rfl; (focus (intro wS hSw; obtain ⟨⟨q0, q1, q2, q3⟩, ⟨e0, e1, e2, e3, e4, e5, e6⟩⟩ := hSw; go_simp; first | done | with_reducible rfl)); (try simp only [Act.put, List.setIfInBounds_toArray, List.set_cons_zero, List.set_cons_succ])) | (refine seq_skip rfl ?_ ?_; rfl; (try simp only [Act.put, List.setIfInBounds_toArray, List.set_cons_zero, List.set_cons_succ])))
          refine seq_run rfl (fun K hK => ?_)
          go_simp
          go_at_call 18
          refine (HT1.out.stepOut (T : Nat) (.inr (Int.le_refl _))).mono ?_
          rintro r w2 ⟨rfl, rfl⟩
          (try go_wp2_with fail)
          refine hK.out _ _ (⟨HA.out.later HT1.out.below Hs.out, AtM.of (HT1.out.boxAt HR1.out)⟩) (fun _ => ?_)
          (try simp only [Act.put, List.setIfInBounds_toArray, List.set_cons_zero, List.set_cons_succ])
          clear hK K
          repeat (first | (refine seq_take (v := ?_) rfl ?_ ?_ ?_; rotate_left 1; rfl; (focus (intro wS hSw; obtain ⟨⟨q0, q1, q2, q3⟩, ⟨e0, e1, e2, e3, e4, e5, e6⟩⟩ := hSw; go_simp; first | done | with_reducible rfl)); (try simp only [Act.put, List.setIfInBounds_toArray, List.set_cons_zero, List.set_cons_succ])) | (refine seq_skip rfl ?_ ?_; rfl; (try simp only [Act.put, List.setIfInBounds_toArray, List.set_cons_zero, List.set_cons_succ])))
          refine seq_run rfl (fun K hK => ?_)
          go_simp
          go_at_call 19
          refine (HT1.out.busyOut (-1) (.inl (by decide))).mono ?_
          rintro r w2 ⟨rfl, rfl⟩
          (try go_wp2_with fail)
          refine hK.out _ _ (⟨HA.out.later HT1.out.below Hs.out, AtM.of (HT1.out.boxAt HR1.out)⟩) (fun _ => ?_)
          (try simp only [Act.put, List.setIfInBounds_toArray, List.set_cons_zero, List.set_cons_succ])
          clear hK K
          repeat (first | (refine seq_take (v := ?_) rfl ?_ ?_ ?_; rotate_left 1; rfl; (focus (intro wS hSw; obtain ⟨⟨q0, q1, q2, q3⟩, ⟨e0, e1, e2, e3, e4, e5, e6⟩⟩ := hSw; go_simp; first | done | with_reducible rfl)); (try simp only [Act.put, List.setIfInBounds_toArray, List.set_cons_zero, List.set_cons_succ])) | (refine seq_skip rfl ?_ ?_; rfl; (try simp only [Act.put, List.setIfInBounds_toArray, List.set_cons_zero, List.set_cons_succ])))
          refine seq_done ?_
          obtain ⟨e0, e1, e2, e3, e4, e5, e6⟩ := AtM.of (HT1.out.boxAt HR1.out)
          go_wp2_with fail
          refine (HT1.out.passRest (-1 - m) (by omega)).mono ?_
          rintro r w3 ⟨rfl, rfl⟩
          clear e0 e1 e2 e3 e4 e5 e6
          go_wp2_with fail
          refine (HT1.out.nowC Y.now rfl).mono ?_
          rintro r w9 ⟨rfl, hb⟩
          replace HT1 := Lib.hid (HT1.out.later hb)
          clear hb
          go_wp2_with fail
          go_roundw
          case rel => exact ⟨i + 1, l1, Y, J, K, v, _, X1, M1, by omega, rfl, rfl, rfl, by go_num, Lib.hid (HT1.out.rest1 (by omega)), Lib.hid (by have := HN.out; show _ ≤ _; omega)⟩
          case measure => first | omega | (simp [intOf]; done) | (simp [intOf]; omega)

      · have k0 : (kk == 0) = false := by simp [hk1]
        have k6 : (kk == 6) = false := by simp [hk2]
        have k7 : (kk == 7) = false := by simp [hk3]
        cases q with
        | none =>
          as_aux_lemma =>
            have d0 := HT1.out.rowAt.at' _ _ (HT1.out.sd.idle th hqt)
            have HQ := Lib.hid hqt
            clear hqt
            go_wp2_with fail
            refine (HT1.out.busyC th false ⟨none, HQ.out, rfl⟩).mono ?_
            rintro r w2 ⟨rfl, rfl⟩
            go_wp2_with fail
            refine (HT1.out.stepNone th HQ.out).mono ?_
            rintro r w3 ⟨rfl, rfl⟩
            go_wp2_with fail
            go_roundw
            case rel => exact ⟨i + 1, l1, Y, J, K, v, _, X1, M1, by omega, rfl, rfl, rfl, by go_num, Lib.hid (HT1.out.rest1 (by omega)), Lib.hid (by have := HN.out; show _ ≤ _; omega)⟩
            case measure => first | omega | (simp [intOf]; done) | (simp [intOf]; omega)

        | some a =>
          obtain ⟨Tk, di⟩ := a
          obtain ⟨bk, hb1, hb2⟩ := HT1.out.at' hqt
          have d0 := HT1.out.rowAt.at' _ _ hb1
          have HB1 := Lib.hid hb1
          have HB2 := Lib.hid hb2
          obtain ⟨hok, hfew, hby, hp0, dd, hdd, hdw, hdt⟩ := HT1.out.yd.ok.task th Tk di hqt
          have HOk := Lib.hid hok
          have HFit := Lib.hid HT1.out.yd.h.fit
          have HFew := Lib.hid hfew
          have HDd := Lib.hid hdd
          have HDt := Lib.hid hdt
          have hn0 := HT1.out.yd.ok.now0
          have hnL := HT1.out.yd.ok.nL
          have hnm := HT1.out.yd.ok.most
          have hnd := HT1.out.yd.ok.nds
          have HQ := Lib.hid hqt
          have hnw : Y.now ≤ 20000000 := by have := HN.out; omega
          clear hqt hb1 hb2 hok hfew hby hp0 hdd hdw hdt HR1 HL8
          go_wp2_with fail
          refine (HT1.out.busyC th true ⟨_, HQ.out, rfl⟩).mono ?_
          rintro r w2 ⟨rfl, rfl⟩
          go_wp2_with fail
          refine (HT1.out.step (by omega) th Tk di HQ.out).mono ?_
          rintro r w3 ⟨rfl, z, l2, hz, hT2⟩
          have HT2 := Lib.hid hT2
          have HZ := Lib.hid hz
          clear hT2 hz HT1 d0
          have d0 := HT2.out.rowAt.at' _ _ HB1.out
          go_wp2_with fail
          refine (HT2.out.tstep (P := plOf ⟨yb, ytb, p, c, T, s, so, d, T⟩ N th) HQ.out HB1.out HOk.out hn0 (by omega)).mono ?_
          rintro r w4 ⟨z', hz', rfl, l3, v3, hT3⟩
          rw [Wk.step_one' HOk.out HFit.out hz' HZ.out] at hT3 ⊢
          have HT3 := Lib.hid hT3
          clear hT3 HT2 d0 hz'
          have HNW := Lib.hid (step_now (P := plOf ⟨yb, ytb, p, c, T, s, so, d, T⟩ N th) (k := th) (i := di) (T := Tk) (z := z) (show Y.now + 1 ≤ (1099511627776 : Int) by omega))
          by_cases hp : (Tk.step (plOf ⟨yb, ytb, p, c, T, s, so, d, T⟩ N th) Y.C Y.now z).ph = 0
          · have e : ((Tk.step (plOf ⟨yb, ytb, p, c, T, s, so, d, T⟩ N th) Y.C Y.now z).ph != 0) = false := by simp [hp]
            rw [e]
            have HP := Lib.hid hp
            clear e hp
            have HT1 := Lib.hid (HT3.out.same (Z' := Y.step (plOf ⟨yb, ytb, p, c, T, s, so, d, T⟩ N th) th Tk di z) rfl rfl (by show (if _ then _ else _) = _; rw [if_pos HP.out]) (by show (if _ then _ else _) = _; rw [if_pos HP.out]))
            clear HT3
            as_aux_lemma =>
              go_wp2_with fail
              refine (HT1.out.nowC (Y.now + 1) HNW.out).mono ?_
              rintro r w9 ⟨rfl, hb⟩
              replace HT1 := Lib.hid (HT1.out.later hb)
              clear hb
              go_wp2_with fail
              go_roundw
              case rel => exact ⟨i + 1, _, Y.step (plOf ⟨yb, ytb, p, c, T, s, so, d, T⟩ N th) th Tk di z, J, K, v3, _, _, M1, by omega, rfl, by show Value.int .i64 _ = Value.int .i64 ((Y.moves + 1 : Nat) : Int); go_num, by rw [HNW.out], by go_num, HT1, Lib.hid (by have := HN.out; show Yd.now _ ≤ _; rw [HNW.out]; omega)⟩
              case measure => first | omega | (simp [intOf]; done) | (simp [intOf]; omega)

          · have e : ((Tk.step (plOf ⟨yb, ytb, p, c, T, s, so, d, T⟩ N th) Y.C Y.now z).ph != 0) = true := by simp [hp]
            rw [e]
            have HP := Lib.hid hp
            clear e hp
            as_aux_lemma =>
              obtain ⟨A, cap, rfl⟩ := own_shape HT3.out.own
              have hil : di < Y.ds.length := (List.getElem?_eq_some_iff.1 HDd.out).1
              obtain ⟨g, cap', hv⟩ := own_at HT3.out.own (show 0 < Y.ds.length by omega)
              cases hv
              have hil' : (di : Int) < (Y.ds.length : Int) := by omega
              have d1 := HT3.out.mineAt.at' _ _ HB2.out
              have e6 : w4.cell? ⟨g, di * 11 + 6, none⟩ = some (.int .i64 dd.till) := (HT3.out.own.cellAt _ (by show di * 11 + 6 < Y.ds.length * 11; omega)).trans ((flatD_at HDd.out (by decide)).trans rfl)
              have f6 := HT3.out.own.frozenAt (di * 11 + 6)
              go_wp2_with fail
              have HQ2 : Hid ((Y.ts.set th (some (Tk.step (plOf ⟨yb, ytb, p, c, T, s, so, d, T⟩ N th) Y.C Y.now z, di)))[th]? = some (some (Tk.step (plOf ⟨yb, ytb, p, c, T, s, so, d, T⟩ N th) Y.C Y.now z, di))) := Lib.hid (List.getElem?_set_self (List.getElem?_eq_some_iff.1 HQ.out).1)
              have HOk2 : Hid ((Tk.step (plOf ⟨yb, ytb, p, c, T, s, so, d, T⟩ N th) Y.C Y.now z).Ok (plOf ⟨yb, ytb, p, c, T, s, so, d, T⟩ N th) (Tk.cells (plOf ⟨yb, ytb, p, c, T, s, so, d, T⟩ N th) Y.C Y.now)) := Lib.hid (HOk.out.next HFew.out (by omega) HZ.out hn0 HFit.out).1
              obtain ⟨l4, hT4, _⟩ := HT3.out.setTill (Y.moves : Nat) rfl HDd.out
              have HT4 := Lib.hid hT4
              clear hT4 d1 e6 f6 HT3
              generalize w4.setCell ⟨g, di * 11 + 6, none⟩ (.int .i64 (Y.moves : Nat)) = w5 at HT4 ⊢
              replace HT4 := Lib.hid (HT4.out.later (Below.refl _ _).drew)
              refine wp_region_seqS ((fun w' => w'.cell? ⟨tb1, th, none⟩ = some (.pointer (some ⟨bk, 0, none⟩)) ∧ w'.cell? ⟨mb1, th, none⟩ = some (.int .i64 di))) ((0, true) :: (1, true) :: (2, true) :: (3, true) :: (4, true) :: (5, true) :: (6, true) :: (7, true) :: (8, true) :: (9, false) :: (10, true) :: (11, true) :: (12, false) :: []) (by kernel_rfl) (by kernel_rfl) (by kernel_rfl) (by decide) (fun _ _ _ _ _ h => h) (⟨HT4.out.rowAt.at' _ _ HB1.out, HT4.out.mineAt.at' _ _ HB2.out⟩) ?_
              repeat (first | (refine seq_take (v := ?_) rfl ?_ ?_ ?_; rotate_left 1; rfl; (focus (intro wS hSw; obtain ⟨d0, d1⟩ := hSw; go_simp; first | done | with_reducible rfl)); (try simp only [Act.put, List.setIfInBounds_toArray, List.set_cons_zero, List.set_cons_succ])) | (refine seq_skip rfl ?_ ?_; rfl; (try simp only [Act.put, List.setIfInBounds_toArray, List.set_cons_zero, List.set_cons_succ])))
              refine seq_run rfl (fun K hK => ?_)
              go_simp
              go_at_call 21
              refine (HT4.out.treply (P := plOf ⟨yb, ytb, p, c, T, s, so, d, T⟩ N th) HQ2.out HB1.out HOk2.out).mono ?_
              rintro r w6 ⟨rfl, hb⟩
              (try go_wp2_with fail)
              replace HT4 := Lib.hid (HT4.out.later hb)
              clear hb
              rw [Dd.over_reply dd Y.moves (Tk.step (plOf ⟨yb, ytb, p, c, T, s, so, d, T⟩ N th) Y.C Y.now z) HDt.out.2]
              obtain ⟨dd2, hdd2⟩ : ∃ dd2, dd.over Y.moves (Tk.step (plOf ⟨yb, ytb, p, c, T, s, so, d, T⟩ N th) Y.C Y.now z) = dd2 := ⟨_, rfl⟩
              have HOF := Lib.hid (Dd.over_form dd Y.moves (Tk.step (plOf ⟨yb, ytb, p, c, T, s, so, d, T⟩ N th) Y.C Y.now z))
              rw [hdd2] at HOF ⊢
              have HD2 := Lib.hid hdd2
              clear hdd2
              have hgt : g ≠ tb1 := fun e => HT4.out.dne.1 (e ▸ rfl)
              have hgm : g ≠ mb1 := fun e => HT4.out.dne.2 (e ▸ rfl)
              have hown : w6.ownsRow W.heap.size 55 11 (.slice (some ⟨g, 0, none⟩) Y.ds.length cap) (Y.ds.set di { dd with till := (Y.moves : Nat) }).length (flatD (Y.ds.set di { dd with till := (Y.moves : Nat) })) := HT4.out.own
              rw [List.length_set] at hown
              have hcell : ∀ j u, j < 11 → (Dd.list { dd with till := (Y.moves : Nat) })[j]? = some u → w6.cell? ⟨g, di * 11 + j, none⟩ = some u := fun j u hj hu => (hown.cellAt _ (by omega)).trans ((flatD_at (List.getElem?_set_self hil) hj).trans hu)
              have e7 := hcell 7 _ (by decide) rfl
              have e8 := hcell 8 _ (by decide) rfl
              have e9 := hcell 9 _ (by decide) rfl
              have e10 := hcell 10 _ (by decide) rfl
              have f7 := hown.frozenAt (di * 11 + 7)
              have f8 := hown.frozenAt (di * 11 + 8)
              have f9 := hown.frozenAt (di * 11 + 9)
              have f10 := hown.frozenAt (di * 11 + 10)
              have HTB := Lib.hid HT4.out.rowAt
              have HMB := Lib.hid HT4.out.mineAt
              clear hcell hown
              refine hK.out _ _ (⟨HT4.out.rowAt.at' _ _ HB1.out, HT4.out.mineAt.at' _ _ HB2.out⟩) (fun _ => ?_)
              (try simp only [Act.put, List.setIfInBounds_toArray, List.set_cons_zero, List.set_cons_succ])
              clear hK K
              repeat (first | (refine seq_take (v := ?_) rfl ?_ ?_ ?_; rotate_left 1; rfl; (focus (intro wS hSw; obtain ⟨d0, d1⟩ := hSw; go_simp; first | done | with_reducible rfl)); (try simp only [Act.put, List.setIfInBounds_toArray, List.set_cons_zero, List.set_cons_succ])) | (refine seq_skip rfl ?_ ?_; rfl; (try simp only [Act.put, List.setIfInBounds_toArray, List.set_cons_zero, List.set_cons_succ])))
              refine seq_run rfl (fun K hK => ?_)
              go_simp
              have HTB2 := Lib.hid ((((HTB.out.other (di * 11 + 7) (.bool dd2.ok) hgt).other (di * 11 + 8) (.int .u64 dd2.v) hgt).other (di * 11 + 9) (.int .i64 dd2.lo) hgt).other (di * 11 + 10) (.int .i64 dd2.hi) hgt)
              have HMB2 := Lib.hid ((((HMB.out.other (di * 11 + 7) (.bool dd2.ok) hgm).other (di * 11 + 8) (.int .u64 dd2.v) hgm).other (di * 11 + 9) (.int .i64 dd2.lo) hgm).other (di * 11 + 10) (.int .i64 dd2.hi) hgm)
              refine hK.out _ _ (⟨HTB2.out.at' _ _ HB1.out, HMB2.out.at' _ _ HB2.out⟩) (fun _ => ?_)
              (try simp only [Act.put, List.setIfInBounds_toArray, List.set_cons_zero, List.set_cons_succ])
              clear hK K
              refine seq_done ?_
              obtain ⟨l5, hT5, _⟩ := HT4.out.setReply (cap := cap) (g := g) (i := di) (dd := { dd with till := (Y.moves : Nat) }) (dd' := dd2) (by show _ = Value.slice _ (Y.ds.set di _).length _; rw [List.length_set]) (List.getElem?_set_self hil) (HOF.out.1.trans (by rw [HOF.out.2]))
              have HT5 := Lib.hid hT5
              clear hT5 HTB HMB HTB2 HMB2 e7 e8 e9 e10 f7 f8 f9 f10
              have d0 := HT5.out.rowAt.at' _ _ HB1.out
              have f0 := HT5.out.rowAt.fz th
              have HT6 := Lib.hid (HT5.out.end hthT)
              have HT1 := Lib.hid (HT6.out.same (Z' := Y.step (plOf ⟨yb, ytb, p, c, T, s, so, d, T⟩ N th) th Tk di z) rfl rfl (by show (if _ then _ else _) = (Y.ts.set th _).set th none; rw [if_neg HP.out, List.set_set]) (by show (if _ then _ else _) = (Y.ds.set di _).set di _; rw [if_neg HP.out, List.set_set, modify_set HDd.out, HD2.out]))
              clear HT4 HT5 HT6
              go_wp2_with fail
              clear d0 f0
              refine (HT1.out.nowC (Y.now + 1) HNW.out).mono ?_
              rintro r w9 ⟨rfl, hb⟩
              replace HT1 := Lib.hid (HT1.out.later hb)
              clear hb
              go_wp2_with fail
              go_roundw
              case rel => exact ⟨i + 1, _, Y.step (plOf ⟨yb, ytb, p, c, T, s, so, d, T⟩ N th) th Tk di z, J, K, v3, _, _, M1, by omega, rfl, by show Value.int .i64 _ = Value.int .i64 ((Y.moves + 1 : Nat) : Int); go_num, by rw [HNW.out], by go_num, HT1, Lib.hid (by have := HN.out; show Yd.now _ ≤ _; rw [HNW.out]; omega)⟩
              case measure => first | omega | (simp [intOf]; done) | (simp [intOf]; omega)


    · obtain rfl : i = len4 := by omega
      have hnn : ¬ (i : Int) < (i : Int) := by omega
      skip
      have hs300 : i ≤ 300 := hs4
      clear hi hi4 HX
      obtain ⟨A, cap, rfl⟩ := own_shape HT.out.own
      have HNL : Hid (Y.ds.length ≤ 1000 ∧ Y.L.length ≤ 1000) := Lib.hid (by have := HT.out.yd.ok.nds; have := HT.out.yd.ok.nL; have := HT.out.yd.ok.most; omega)
      go_wp2_with fail
      refine (HT.out.yd.deeds (by omega)).mono ?_
      rintro r wa ⟨ua, rfl, hra, hba⟩
      obtain ⟨A6, cap6, rfl⟩ := own_shape hra
      have hTm := HT.out.more (A := tRow W.heap.size 55 11 (.slice A6 Y.ds.length cap6) Y.ds.length (flatD Y.ds)) hba (tRow_ok _ _ _ _ _ _) (row_base hra HT.out.hold.size) (fun q hq => (hra.lt q hq).1)
      have HT1 := Lib.hid hTm.1
      have HR6 := Lib.hid hTm.2
      clear hra hba hTm HT
      generalize l.length = j6 at HR6
      generalize l ++ [tRow W.heap.size 55 11 (.slice A6 Y.ds.length cap6) Y.ds.length (flatD Y.ds)] = l6 at HR6 HT1
      go_wp2_with fail
      refine (HT1.out.yd.log (by omega)).mono ?_
      rintro r wb ⟨ub, rfl, hrb, hbb⟩
      obtain ⟨A7, cap7, rfl⟩ := own_shape hrb
      have HE1 := Lib.hid (EvAt.row0 hrb)
      replace HT1 := Lib.hid (HT1.out.later hbb)
      clear hrb hbb
      go_wp2_with fail
      refine (log_any W.heap.size _ p' c' v Y.C Y.L HT1.out.memAt (by have := HNL.out; omega)).mono ?_
      rintro r wc ⟨uc, rfl, hrc, hbc⟩
      obtain ⟨A8, cap8, rfl⟩ := own_shape hrc
      have HE2 := Lib.hid (EvAt.row0 hrc)
      replace HE1 := Lib.hid (HE1.out.later hbc)
      replace HT1 := Lib.hid (HT1.out.later hbc)
      clear hrc hbc
      go_wp2_with fail
      refine (same_any _ _ _ _ _ Y.L HE1.out HE2.out (by have := HNL.out; omega)).mono ?_
      rintro r wd ⟨rfl, hbd⟩
      replace HT1 := Lib.hid (HT1.out.later hbd)
      clear hbd HE1 HE2
      go_wp2_with fail
      go_loopw [247] (fun ix wr => ∃ e : Nat, e ≤ Y.ds.length ∧ ix = .int .i64 e ∧ Hid (Tw W wr l6 ⟨yb, ytb, p, c, T, s, so, d, T⟩ N Y J i ⟨p', c', tb1, mb1⟩ Y K v (.slice A Y.ds.length cap) X1 M1)) (fun ix _ => 2000 - (intOf ix).toNat)
      case atStart => exact ⟨0, Nat.zero_le _, rfl, HT1⟩
      case round =>
        clear HT1
        obtain ⟨e, he, rfl, HT⟩ := hrel
        have hnl := HNL.out.1
        rcases Nat.lt_or_ge e Y.ds.length with hel | hel
        · have hel' : (e : Int) < (Y.ds.length : Int) := by omega
          obtain ⟨dd, hdd⟩ : ∃ dd, Y.ds[e]? = some dd := ⟨_, List.getElem?_eq_getElem hel⟩
          have r4 := HT.out.own
          have r6 : wr.ownsRow W.heap.size 55 11 (.slice A6 Y.ds.length cap6) Y.ds.length (flatD Y.ds) := HT.out.hold.has _ _ HR6.out.at'
          obtain ⟨g4, cap4', hv⟩ := own_at r4 (by omega)
          cases hv
          obtain ⟨g6, cap6', hv⟩ := own_at r6 (by omega)
          cases hv
          have HA4 : Hid (AtDd wr.drew g4 (e * 11) dd) := Lib.hid ((AtDd.row r4 hdd).later (Below.refl _ _).drew)
          have HA6 : Hid (AtDd wr.drew g6 (e * 11) dd) := Lib.hid ((AtDd.row r6 hdd).later (Below.refl _ _).drew)
          clear r4 r6 hdd
          go_wp2_with fail
          refine wp_region_seqS ((fun w' => AtDd w' g6 (e * 11) dd ∧ AtDd w' g4 (e * 11) dd)) ((0, true) :: (1, true) :: (2, true) :: (3, true) :: (4, true) :: (5, true) :: (6, true) :: (7, true) :: (8, true) :: []) (by kernel_rfl) (by kernel_rfl) (by kernel_rfl) (by decide) (fun _ _ _ _ _ h => h) (⟨HA6.out, HA4.out⟩) ?_
          repeat (first | (refine seq_take (v := ?_) rfl ?_ ?_ ?_; rotate_left 1; rfl; (focus (intro wS hSw; obtain ⟨⟨c0, c1, c2, c3, c4, c5, c6, c7, c8, c9, c10⟩, ⟨b0, b1, b2, b3, b4, b5, b6, b7, b8, b9, b10⟩⟩ := hSw; go_simp; first | done | with_reducible rfl)); (try simp only [Act.put, List.setIfInBounds_toArray, List.set_cons_zero, List.set_cons_succ])) | (refine seq_skip rfl ?_ ?_; rfl; (try simp only [Act.put, List.setIfInBounds_toArray, List.set_cons_zero, List.set_cons_succ])))
          refine seq_done ?_
          replace HT := Lib.hid (HT.out.later (Below.refl _ _).drew)
          go_wp2_with fail
          go_roundw
          case rel => exact ⟨e + 1, by omega, by go_num, HT⟩
          case measure => first | omega | (simp [intOf]; done) | (simp [intOf]; omega)
        · obtain rfl : e = Y.ds.length := by omega
          have hnn3 : ¬ (Y.ds.length : Int) < (Y.ds.length : Int) := by omega
          have hn1 := hlay.n1
          have HCL : Hid ((Y.C.length : Int) = 2 * N + 2 * (T : Int)) := Lib.hid HT.out.yd.len
          go_wp2_with fail
          refine HT.out.yd.words.mono ?_
          rintro r w7 h7
          obtain ⟨g, cap9, rfl, hg7, hb7⟩ := h7.at (by omega)
          replace HT := Lib.hid (HT.out.later hb7)
          have HG := Lib.hid hg7
          clear h7 hg7 hb7 hnn3 hel he hnl
          go_wp2_with fail
          refine HT.out.yd.values.mono ?_
          rintro r w8 h8
          obtain ⟨gv, cap8, rfl, hg8, hb8⟩ := h8.at (by omega)
          replace HT := Lib.hid (HT.out.later hb8)
          have HPL : Hid (AtPl w8 W.heap.size p' c' v Y.C Y.L g gv cb N T s so d) := Lib.hid ⟨HT.out.memAt, fun i hi => (hb8.cell (p := ⟨g, i, none⟩) (World.block_lt_of_cell? _ _ (HG.out i hi))).trans ((HG.out i hi).trans (by rw [Nat.zero_add])), hg8, HA.out.later HT.out.below Hs.out⟩
          have HBW := Lib.hid (below_step' HB.out HT.out.below HB.out.size)
          clear h8 hg8 hb8 HG HT
          obtain ⟨q0, q1, q2, q3⟩ := HPL.out.conf
          go_wp2_with fail
          refine (call_any T s so d N _ hlay).mono ?_
          rintro r w10 ⟨rfl, hb⟩
          replace HPL := Lib.hid (HPL.out.later hb)
          replace HBW := Lib.hid (below_step HBW.out hb)
          clear hb q0 q1 q2 q3
          obtain ⟨q0, q1, q2, q3⟩ := HPL.out.conf
          go_wp2_with fail
          refine (call_any T s so d N _ hlay).mono ?_
          rintro r w11 ⟨rfl, hb⟩
          replace HPL := Lib.hid (HPL.out.later hb)
          replace HBW := Lib.hid (below_step HBW.out hb)
          clear hb q0 q1 q2 q3
          go_wp2_with fail
          have hN0 := hlay.n1
          have HCL2 : Hid (2 * N ≤ Y.C.length) := Lib.hid (by have := HCL.out; omega)
          go_loopw [278] (fun ix wr => ∃ i : Nat, i ≤ N ∧ ix = .int .i64 i ∧ Hid (AtPl wr W.heap.size p' c' v Y.C Y.L g gv cb N T s so d) ∧ Hid (Below w.heap.size w wr)) (fun ix _ => N - (intOf ix).toNat)
          case atStart => exact ⟨0, Nat.zero_le _, rfl, HPL, HBW⟩
          case round =>
            clear HPL HBW
            obtain ⟨i, hi, rfl, HP, HBW⟩ := hrel
            rcases Nat.lt_or_ge i N with hil | hil
            · have hil' : (i : Int) < (N : Int) := by omega
              have hx0 : Hid (Y.C[i]? = some (Y.C.getD i 0)) := Lib.hid (by have := HCL2.out; rw [List.getD_eq_getElem?_getD, List.getElem?_eq_getElem (by omega)]; rfl)
              have hx1 : Hid (Y.C[N + i]? = some (Y.C.getD (N + i) 0)) := Lib.hid (by have := HCL2.out; rw [List.getD_eq_getElem?_getD, List.getElem?_eq_getElem (by omega)]; rfl)
              generalize Y.C.getD i 0 = xa at hx0
              generalize Y.C.getD (N + i) 0 = xb at hx1
              have HWD : Hid (∀ w', AtPl w' W.heap.size p' c' v Y.C Y.L g gv cb N T s so d → w'.cell? ⟨g, i, none⟩ = some (.int .u64 xa) ∧ w'.cell? ⟨gv, i, none⟩ = some (.int .u64 xb) ∧ AtC w' cb T s so d) := Lib.hid (fun w' h => ⟨by rw [h.words i hil, List.getD_eq_getElem?_getD, hx0.out]; rfl, by rw [h.values i hil, List.getD_eq_getElem?_getD, hx1.out]; rfl, h.conf⟩)
              replace HP := Lib.hid (HP.out.later (Below.refl _ _).drew)
              replace HBW := Lib.hid (below_step HBW.out (Below.refl _ _).drew)
              go_wp2_with fail
              refine wp_region_seqS ((fun w' => w'.cell? ⟨g, i, none⟩ = some (.int .u64 xa) ∧ w'.cell? ⟨gv, i, none⟩ = some (.int .u64 xb) ∧ AtC w' cb T s so d)) ((0, true) :: (1, true) :: (2, true) :: (3, true) :: (4, true) :: (5, true) :: (6, true) :: (7, false) :: (8, false) :: (9, true) :: (10, true) :: (11, true) :: (12, true) :: (13, true) :: (14, true) :: (15, true) :: (16, true) :: (17, true) :: (18, false) :: (19, false) :: (20, true) :: (21, true) :: []) (by kernel_rfl) (by kernel_rfl) (by kernel_rfl) (by decide) (fun _ _ _ _ _ h => h) ((HWD.out _ HP.out)) ?_
              repeat (first | (refine seq_take (v := ?_) rfl ?_ ?_ ?_; rotate_left 1; rfl; (focus (intro wS hSw; obtain ⟨z0, z1, ⟨q0, q1, q2, q3⟩⟩ := hSw; go_simp; first | done | with_reducible rfl)); (try simp only [Act.put, List.setIfInBounds_toArray, List.set_cons_zero, List.set_cons_succ])) | (refine seq_skip rfl ?_ ?_; rfl; (try simp only [Act.put, List.setIfInBounds_toArray, List.set_cons_zero, List.set_cons_succ])))
              refine seq_run rfl (fun K hK => ?_)
              go_simp
              go_at_call 31
              refine (cword_any T s so d i _).mono ?_
              rintro r wa ⟨rfl, hb⟩
              (try go_wp2_with fail)
              replace HP := Lib.hid (HP.out.later hb)
              replace HBW := Lib.hid (below_step HBW.out hb)
              clear hb
              refine hK.out _ _ ((HWD.out _ HP.out)) (fun _ => ?_)
              (try simp only [Act.put, List.setIfInBounds_toArray, List.set_cons_zero, List.set_cons_succ])
              clear hK K
              refine seq_run rfl (fun K hK => ?_)
              go_simp
              go_at_call 30
              refine (peek_in _ _ _ _ _ _ _ i xa HP.out.mem hx0.out).mono ?_
              rintro r wb ⟨rfl, rfl⟩
              (try go_wp2_with fail)
              refine hK.out _ _ ((HWD.out _ HP.out)) (fun _ => ?_)
              (try simp only [Act.put, List.setIfInBounds_toArray, List.set_cons_zero, List.set_cons_succ])
              clear hK K
              repeat (first | (refine seq_take (v := ?_) rfl ?_ ?_ ?_; rotate_left 1; rfl; (focus (intro wS hSw; obtain ⟨z0, z1, ⟨q0, q1, q2, q3⟩⟩ := hSw; go_simp; first | done | with_reducible rfl)); (try simp only [Act.put, List.setIfInBounds_toArray, List.set_cons_zero, List.set_cons_succ])) | (refine seq_skip rfl ?_ ?_; rfl; (try simp only [Act.put, List.setIfInBounds_toArray, List.set_cons_zero, List.set_cons_succ])))
              refine seq_run rfl (fun K hK => ?_)
              go_simp
              go_at_call 32
              refine (cvalue_any T s so d N i _ hlay (by omega) (by omega)).mono ?_
              rintro r wc ⟨rfl, hb⟩
              (try go_wp2_with fail)
              replace HP := Lib.hid (HP.out.later hb)
              replace HBW := Lib.hid (below_step HBW.out hb)
              clear hb
              refine hK.out _ _ ((HWD.out _ HP.out)) (fun _ => ?_)
              (try simp only [Act.put, List.setIfInBounds_toArray, List.set_cons_zero, List.set_cons_succ])
              clear hK K
              refine seq_run rfl (fun K hK => ?_)
              go_simp
              go_at_call 30
              refine (peek_in _ _ _ _ _ _ _ (N + i) xb HP.out.mem hx1.out).mono ?_
              rintro r wd ⟨rfl, rfl⟩
              (try go_wp2_with fail)
              refine hK.out _ _ ((HWD.out _ HP.out)) (fun _ => ?_)
              (try simp only [Act.put, List.setIfInBounds_toArray, List.set_cons_zero, List.set_cons_succ])
              clear hK K
              repeat (first | (refine seq_take (v := ?_) rfl ?_ ?_ ?_; rotate_left 1; rfl; (focus (intro wS hSw; obtain ⟨z0, z1, ⟨q0, q1, q2, q3⟩⟩ := hSw; go_simp; first | done | with_reducible rfl)); (try simp only [Act.put, List.setIfInBounds_toArray, List.set_cons_zero, List.set_cons_succ])) | (refine seq_skip rfl ?_ ?_; rfl; (try simp only [Act.put, List.setIfInBounds_toArray, List.set_cons_zero, List.set_cons_succ])))
              refine seq_done ?_
              go_wp2_with fail
              go_roundw
              case rel => exact ⟨i + 1, by omega, by go_num, HP, HBW⟩
              case measure => first | omega | (simp [intOf]; done) | (simp [intOf]; omega)
            · obtain rfl : i = N := by omega
              have hnn9 : ¬ (i : Int) < (i : Int) := by omega
              go_wp2
              go_ret
              exact ⟨rfl, HBW.out⟩



end Go.Proofs.YthlmekkijknooaaGreat
