/-
  BoundWindows answers true for all numbers and lists, and leaves all memory that was there as it was. No condition.
-/
import Derived.Test.YtgoncakjkippkabGreatBoundWin
namespace Go.Proofs.YtgoncakjkippkabGreat
open Go.RowKit
set_option linter.unusedVariables false

/-- Where the ends lie. -/
abbrev tEnds (base : Nat) (A : Option Addr) (cp : Nat) (E : List Int) : Thing := tRow base 3 1 (.slice A E.length cp) E.length (E.map (Value.int .i64))
/-- What work leaves. -/
structure WorkPost (T : Nat) (N Q : Nat) (w : World) (r : Ending) (w' : World) (yb : Nat) (A : Option Addr) (cp : Nat) (E : List Int) : Prop where
  ret : r = .returned (.tuple #[pt yb, .slice A E.length cp])
  below : Below w.heap.size w w'
  isI : IsI w' A E
  cap : E.length ≤ cp
  len : E.length ≤ 900
  rng : ∀ e ∈ E, 0 ≤ e ∧ e < 900
  gaps : gapsV E 900 ≤ ((T * bL N Q T + 1 : Nat) : Int)
theorem isI_of_row {w : World} {base cp : Nat} {A : Option Addr} {E : List Int} (h : (tEnds base A cp E).P w) : IsI w A E ∧ E.length ≤ cp := by
  have h' : w.ownsRow base 3 1 (.slice A E.length cp) E.length (E.map (Value.int .i64)) := h
  refine ⟨fun hp => ?_, own_cap h'⟩
  obtain ⟨g, cap, hv, h1, h2⟩ := row_shape h' hp
  cases hv
  exact ⟨g, 0, rfl, h2, fun i hi => by rw [Nat.zero_add]; exact row_at h' hi⟩

set_option maxRecDepth 100000 in
set_option maxHeartbeats 8000000 in
theorem work_any (T : Nat) (s so d : Int) (N Q : Nat) (hbn : BN T s so d N Q) (a1 a2 : Option Addr) (len1 cap1 len2 cap2 tb off pb poff : Nat) (X : Nat → Aq) (P : Nat → Int) (w : World) (hX : IsAqs w a1 len1 cap1 tb off X) (hP : IsPk w a2 len2 cap2 pb poff P) (h1 : len1 ≤ 20) (h2 : len2 ≤ 60) :
    Calls Tryz.prog 7 #[cf T s so d, .slice a1 len1 cap1, .slice a2 len2 cap2, .int .i64 900] w fun r w' => ∃ yb A cp E, WorkPost T N Q w r w' yb A cp E := by
  have hlay := hbn.lay
  have o0 := hbn.o0
  have o1 := hbn.o1
  have d0 := hbn.d0
  have d1 := hbn.d1
  have t1 := hlay.t1
  have t2 := hlay.t2
  have HBN := Lib.hid hbn
  have hbw := below_new (Below.refl w.heap.size w) (.cells #[i64 T, i64 s, i64 so, i64 d] 27)
  have HX0 := Lib.hid (hX.later hbw)
  have HP0 := Lib.hid (hP.later hbw)
  have HA0 := Lib.hid (AtC.made w T s so d)
  have Hs0 : Hid (w.heap.size < (w.alloc (.cells #[i64 T, i64 s, i64 so, i64 d] 27)).heap.size) := Lib.hid (by simp)
  have HB := Lib.hid hbw
  have hQb : Q ≤ bL N Q T := Nat.le_max_left _ _
  have hGb : T * (4 * N + 10) ≤ bL N Q T := Nat.le_trans (Nat.mul_le_mul_right _ (Nat.le_succ T)) (Nat.le_max_right _ _)
  clear hX hP hbn hbw
  go_enter Tryz.func7, Tryz.ntmps7
  go_wp2_with fail
  generalize w.alloc (.cells #[i64 T, i64 s, i64 so, i64 d] 27) = W at HA0 HB Hs0 HX0 HP0 ⊢
  generalize w.heap.size = cb at HA0 Hs0 ⊢
  refine (ynew_yes (W := W) T s so d N (Below.refl _ _) hlay o0 o1 d0 d1).mono ?_
  rintro r w3 ⟨yb, ytb, p, c, l0, rfl, hl4, hY, hb, hyb⟩
  have HD0 := Lib.hid (YdL.start hlay o0 o1 d0 d1 hY)
  clear hY hb hyb
  go_wp2_with fail
  have HDM := Lib.hid (HD0.out.more (A := tEnds W.heap.size (some ⟨w3.heap.size, 0, none⟩) 0 []) (below_new (Below.refl _ _) (.cells #[] 3)) (tRow_ok _ _ _ _ _ _) (tRow_made w3 W.heap.size _ _ HD0.out.h.size) tRow_new)
  have HR := Lib.hid (HD0.out.rest (tEnds W.heap.size (some ⟨w3.heap.size, 0, none⟩) 0 []))
  have HW0 : Hid (Win (plOf ⟨yb, ytb, p, c, T, s, so, d, T⟩ N) T Q (bL N Q T) ⟨List.replicate (2 * N + 2 * T) 0, [], 0, 0, List.replicate T none, []⟩ [] 0) := Lib.hid (Win.start (fun k a hk => by
    rw [List.getElem?_replicate] at hk
    split at hk <;> cases hk))
  rw [hl4] at HR
  clear hl4 HD0
  generalize l0 ++ [tEnds W.heap.size (some ⟨w3.heap.size, 0, none⟩) 0 []] = l1 at HDM HR
  go_loopw [12, 13, 14] (fun nv ev iw wr => ∃ (i nx n : Nat) (l : List Thing) (Y : Yd) (J : Nat → Nat) (A : Option Addr) (cp : Nat) (E : List Int), i ≤ 900 ∧ nx ≤ i ∧ n ≤ 2 * i ∧ nv = .int .i64 nx ∧ ev = .slice A E.length cp ∧ iw = .int .i64 i ∧ Hid (YdL W wr l ⟨yb, ytb, p, c, T, s, so, d, T⟩ N Y J n) ∧ Hid (Rest Y l J 4 (tEnds W.heap.size A cp E)) ∧ Hid (Win (plOf ⟨yb, ytb, p, c, T, s, so, d, T⟩ N) T Q (bL N Q T) Y E i)) (fun _ _ iw _ => 900 - (RowKit.intOf iw).toNat)
  case atStart => exact ⟨0, 0, 0, _, _, _, _, _, [], Nat.zero_le _, Nat.le_refl _, Nat.le_refl _, rfl, rfl, rfl, HDM, HR, HW0⟩
  case round =>
    clear HDM HR HW0
    obtain ⟨i, nx, n, l, Y, J, A, cp, E, hi, hnx, hn, rfl, rfl, rfl, HD, HR, HW⟩ := hrel
    rcases Nat.lt_or_ge i 900 with hil | hil
    · have hil' : (i : Int) < 900 := by omega
      obtain ⟨q0, q1, q2, q3⟩ := HA0.out.later HD.out.h.below Hs0.out
      obtain ⟨k1, hk1, he1⟩ := pick_thread (u := (i : Int)) (T := T) (by omega) (by omega)
      go_upto_if 36 with fail
      go_cut [15] (fun sw wx => ∃ k : Nat, k < T ∧ sw = .int .i64 k ∧ Hid (YdL W wx l ⟨yb, ytb, p, c, T, s, so, d, T⟩ N Y J n))
      case first =>
        rcases Nat.eq_zero_or_pos len2 with rfl | hlen
        · go_wp2_with fail
          go_meet
          exact ⟨k1, hk1, rfl, HD⟩
        · have hlen' : (0 : Int) < (len2 : Int) := by omega
          have hl0 : ¬ len2 = 0 := by omega
          have hl1 : ¬ (len2 : Int) = 0 := by omega
          have hT0 : ¬ T = 0 := by omega
          have hT1 : ¬ (T : Int) = 0 := by omega
          obtain ⟨m, hm, hme⟩ := pick_thread (u := (i : Int)) (T := len2) (by omega) (by omega)
          obtain ⟨rfl, hcap, hpb, hcell⟩ := HP0.out m hm
          have c0 := (HD.out.h.below.cell (p := ⟨pb, poff + m, none⟩) hpb).trans hcell
          obtain ⟨u, hu, u0, u1⟩ : ∃ u, bits .and .i64 (P m) 65535 = u ∧ 0 ≤ u ∧ u ≤ 65535 := ⟨_, and_ffff (P m), by omega, by omega⟩
          obtain ⟨k2, hk2, he2⟩ := pick_thread (u := u) (T := T) u0 (by omega)
          clear hcell
          go_wp2_with fail
          refine wp_region_seq ((0, true) :: (1, true) :: (2, true) :: (3, true) :: (4, true) :: (5, true) :: (6, true) :: (7, true) :: (8, true) :: (9, true) :: (10, true) :: (11, true) :: []) (by kernel_rfl) (by kernel_rfl) (by kernel_rfl) (by decide) (fun _ _ _ _ _ h => h) (fun hHeld => ?_)
          repeat (first
            | (refine seq_take (v := ?_) rfl ?_ ?_ ?_; rotate_left 1; rfl; (focus (intro wS hSw; have hk := below_rule hSw; go_simp; first | done | with_reducible rfl)); (try simp only [Act.put, List.setIfInBounds_toArray, List.set_cons_zero, List.set_cons_succ]))
            | (refine seq_skip rfl ?_ ?_; rfl; (try simp only [Act.put, List.setIfInBounds_toArray, List.set_cons_zero, List.set_cons_succ]))
            | (refine seq_run rfl (fun K hK => ?_); go_simp; (try skip); (try go_wp2_with fail); refine hK.out _ _ ?_ ?_; (focus (first | exact below_step hHeld hb' | exact below_new hHeld _ | exact hHeld)); (try clear hb'); clear hHeld hK K; intro hHeld; (try simp only [Act.put, List.setIfInBounds_toArray, List.set_cons_zero, List.set_cons_succ])))
          first | refine seq_done ?_ | skip
          go_wp2_with fail
          go_meet
          exact ⟨k2, hk2, rfl, Lib.hid (HD.out.later hHeld)⟩
      case rest =>
        clear HD q0 q1 q2 q3 he1
        obtain ⟨k, hkT, rfl, HD⟩ := hcut
        obtain ⟨q, hq⟩ : ∃ q, Y.ts[k]? = some q := by
          rcases HD.out.busyOr hkT with ⟨K, ii, hq⟩ | hq
          · exact ⟨_, hq⟩
          · exact ⟨_, hq⟩
        have HQ := Lib.hid hq
        clear hq
        go_wp2_with fail
        refine (HD.out.busy k q.isSome ⟨_, HQ.out, rfl⟩).mono ?_
        rintro r w5 ⟨rfl, hww⟩
        replace hww := hww.symm
        subst hww
        go_upto_if 51 with fail
        go_cut [12, 16] (fun nv av wx => ∃ (nx' n' : Nat) (l' : List Thing) (Y' : Yd) (J' : Nat → Nat) (K : Wk) (ii : Nat), nx' ≤ i + 1 ∧ n' ≤ 2 * i + 1 ∧ nv = .int .i64 nx' ∧ Hid (YdL W wx l' ⟨yb, ytb, p, c, T, s, so, d, T⟩ N Y' J' n') ∧ Hid (Rest Y' l' J' 4 (tEnds W.heap.size A cp E)) ∧ Hid (Win (plOf ⟨yb, ytb, p, c, T, s, so, d, T⟩ N) T Q (bL N Q T) Y' E i) ∧ Hid (Y'.ts[k]? = some (some (K, ii))))
        case first =>
          rcases q with _ | ⟨K, ii⟩
          · skip
            obtain ⟨tk, htk⟩ : ∃ b, ((bits .and .i64 (nx : Int) 1) == 1) = b := ⟨_, rfl⟩
            have hnw : IntKind.i64.wrap ((nx : Int) + 1) = (nx : Int) + 1 := IntWalk.i64_in _ (by omega)
            rcases Nat.eq_zero_or_pos len1 with rfl | hlen
            · have hb := below_new (Below.refl w5.heap.size w5) (.cells #[.bool tk, .bool false, .int .u64 0, .int .i64 0] 42)
              replace HD := Lib.hid (HD.out.later hb)
              clear hb
              go_wp2_with fail
              refine (make_at tk false 0 0 _ _ _ rfl rfl).mono ?_
              rintro r w6 ⟨rfl, hb⟩
              replace HD := Lib.hid (HD.out.later hb)
              clear hb
              go_wp2_with fail
              refine (HD.out.callIdle (by omega) k HQ.out tk rfl (kdI false) 0 0 (.inl rfl) (by decide) (by decide)).mono ?_
              rintro r w7 ⟨rfl, l2, J2, hd, hg⟩
              have HD2 := Lib.hid hd
              have HR2 := Lib.hid (HR.out.go hg)
              have HW2 := Lib.hid (HW.out.call (kd := kdI tk) (e := (kdI false)) (x := 0) (s := 0) HQ.out (OLeft.begun (who := (k : Int)) (e := (kdI false)) (x := 0) (start := 0) (nb := 2 * N + T) (h0 := 2 * N) (hw := 2 * N + k) (m := (k : Int) * s) tk hlay HBN.out.q))
              have HQ2 := Lib.hid (show (Y.ts.set k (some (wkB ⟨yb, ytb, p, c, T, s, so, d, T⟩ N k tk (kdI false) 0 0, Y.ds.length)))[k]? = _ from List.getElem?_set_self (List.getElem?_eq_some_iff.1 HQ.out).1)
              clear hd hg HD HR HW HQ
              go_wp2_with fail
              go_meet
              exact ⟨nx + 1, n + 1, l2, _, J2, _, _, by omega, by omega, by go_num, HD2, HR2, HW2, HQ2⟩
            · have hlen' : (0 : Int) < (len1 : Int) := by omega
              have hl0 : ¬ len1 = 0 := by omega
              have hl1 : ¬ (len1 : Int) = 0 := by omega
              obtain ⟨m, hm, hme⟩ := pick_thread (u := (nx : Int)) (T := len1) (by omega) (by omega)
              obtain ⟨rfl, hcap, htb, ⟨c0, c1, c2, c3⟩, x0, x1⟩ := HX0.out m hm
              replace c0 := (HD.out.h.below.cell (p := ⟨tb, _, none⟩) htb).trans c0
              replace c1 := (HD.out.h.below.cell (p := ⟨tb, _, none⟩) htb).trans c1
              replace c2 := (HD.out.h.below.cell (p := ⟨tb, _, none⟩) htb).trans c2
              replace c3 := (HD.out.h.below.cell (p := ⟨tb, _, none⟩) htb).trans c3
              have htw : tb < w5.heap.size := World.block_lt_of_cell? w5 _ c0
              have he01 : kdI (X m).right = 0 ∨ kdI (X m).right = 1 := by cases (X m).right; exact .inl rfl; exact .inr rfl
              generalize (X m).take = xt at c0
              generalize (X m).right = xr at c1 he01
              generalize (X m).value = xv at c2 x0 x1
              generalize (X m).start = xs at c3
              have hb := below_new (Below.refl w5.heap.size w5) (.cells #[.bool xt, .bool xr, .int .u64 xv, .int .i64 xs] 42)
              replace HD := Lib.hid (HD.out.later hb)
              clear hb
              go_wp2_with fail
              refine (make_at xt xr xv xs _ _ _ rfl rfl).mono ?_
              rintro r w6 ⟨rfl, hb⟩
              replace HD := Lib.hid (HD.out.later hb)
              clear hb
              go_wp2_with fail
              refine (HD.out.callIdle (by omega) k HQ.out xt rfl (kdI xr) xv xs he01 x0 x1).mono ?_
              rintro r w7 ⟨rfl, l2, J2, hd, hg⟩
              have HD2 := Lib.hid hd
              have HR2 := Lib.hid (HR.out.go hg)
              have HW2 := Lib.hid (HW.out.call (kd := kdI xt) (e := (kdI xr)) (x := xv) (s := xs) HQ.out (OLeft.begun (who := (k : Int)) (e := (kdI xr)) (x := xv) (start := xs) (nb := 2 * N + T) (h0 := 2 * N) (hw := 2 * N + k) (m := (k : Int) * s) xt hlay HBN.out.q))
              have HQ2 := Lib.hid (show (Y.ts.set k (some (wkB ⟨yb, ytb, p, c, T, s, so, d, T⟩ N k xt (kdI xr) xv xs, Y.ds.length)))[k]? = _ from List.getElem?_set_self (List.getElem?_eq_some_iff.1 HQ.out).1)
              clear hd hg HD HR HW HQ
              go_wp2_with fail
              go_meet
              exact ⟨nx + 1, n + 1, l2, _, J2, _, _, by omega, by omega, by go_num, HD2, HR2, HW2, HQ2⟩
          · go_wp2_with fail
            go_meet
            exact ⟨nx, n, l, Y, J, K, ii, by omega, by omega, rfl, HD, HR, HW, HQ⟩
        case rest =>
          clear HD HR HW
          obtain ⟨nx', n', l', Y', J', K, ii, hnx', hn', rfl, HD, HR, HW, HQ⟩ := hcut
          go_wp2_with fail
          refine (HD.out.step (by omega) k K ii HQ.out).mono ?_
          rintro r w6 ⟨rfl, l2, z, hz, hd, hg⟩
          have HD2 := Lib.hid hd
          have HR2 := Lib.hid (HR.out.go hg)
          rcases step_self (z := z) HQ.out with ⟨hp, hq⟩ | ⟨hp, hq⟩
          · have HQ2 := Lib.hid hq
            have HW2 := Lib.hid (HW.out.step HD.out.ok (fun _ => rfl) HQ.out hz HD.out.fit hp)
            clear hz hd hg hp hq HD HR HW
            go_wp2_with fail
            refine (HD2.out.busy k true ⟨_, HQ2.out, rfl⟩).mono ?_
            rintro r w7 ⟨rfl, rfl⟩
            go_wp2_with fail
            go_roundw
            case rel => exact ⟨i + 1, nx', n' + 1, l2, _, J', A, cp, E, by omega, by omega, by omega, rfl, rfl, by go_num, HD2, HR2, HW2⟩
            case measure => first | omega | (simp [RowKit.intOf]; done) | (simp [RowKit.intOf]; omega)
          · have HQ2 := Lib.hid hq
            have HW2 := Lib.hid (HW.out.ended HD.out.ok (fun _ => rfl) (by omega) hQb hGb HQ.out hz HD.out.fit)
            have hEl := HW.out.len
            clear hz hd hg hp hq HD HR HW
            go_wp2_with fail
            refine (HD2.out.busy k false ⟨_, HQ2.out, rfl⟩).mono ?_
            rintro r w7 ⟨rfl, rfl⟩
            go_wp2_with (at_builtin; refine list_append_grew rfl _ _ 23 rfl W.heap.size 3 _ 1 8 elem_i64 (.slice A E.length cp) E.length (E.map (Value.int .i64)) rfl (HD2.out.later (below_new (Below.refl _ _) (.cells #[.int .i64 i] 3)) |>.has HR2.out) (some ⟨_, 0, none⟩) 1 1 [.int .i64 i] rfl (src_list w6 [.int .i64 i] 3 1 1 rfl (one_int _ _)) (by unfold maxLen; omega) (by omega) (HD2.out.later (below_new (Below.refl _ _) (.cells #[.int .i64 i] 3))).h.size ?_; intro v8 w8 hG)
            obtain ⟨A8, cp8, rfl⟩ := own_shape hG.own
            have hH := (HD2.out.later (below_new (Below.refl _ _) (.cells #[.int .i64 i] 3))).h.hold.append 4 rfl HR2.out.at' hG
            obtain ⟨hd8, hr8⟩ := (HD2.out.later (below_new (Below.refl _ _) (.cells #[.int .i64 i] 3))).turnRest HR2.out hH
            have eE : tRow W.heap.size 3 1 (.slice A8 (E.length + 1) cp8) (E.length + 1) (E.map (Value.int .i64) ++ [.int .i64 i]) = tEnds W.heap.size A8 cp8 (E ++ [(i : Int)]) := by
              show _ = tRow _ _ _ (.slice _ (E ++ [(i : Int)]).length _) (E ++ [(i : Int)]).length ((E ++ [(i : Int)]).map (Value.int .i64))
              rw [List.length_append, List.map_append]
              rfl
            rw [eE] at hd8 hr8
            have HD8 := Lib.hid hd8
            have HR8 := Lib.hid hr8
            clear hG hH hd8 hr8 eE
            go_wp2_with fail
            go_roundw
            case rel => exact ⟨i + 1, nx', n' + 1, _, _, J', A8, cp8, E ++ [(i : Int)], by omega, by omega, by omega, rfl, by rw [List.length_append]; rfl, by go_num, HD8, HR8, HW2⟩
            case measure => first | omega | (simp [RowKit.intOf]; done) | (simp [RowKit.intOf]; omega)
    · obtain rfl : i = 900 := by omega
      have hnn : ¬ (900 : Int) < (900 : Int) := by omega
      have hb := HW.out.out HD.out.ok (fun _ => rfl) (by omega) hQb hGb
      have hr := HW.out.rng
      have hlen := HW.out.len
      obtain ⟨h3, h4⟩ := isI_of_row (HD.out.has HR.out)
      have HI := Lib.hid h3
      have HRG := Lib.hid hr
      have HGP := Lib.hid hb
      clear h3 hr hb
      go_wp2_with fail
      go_ret2
      exact ⟨yb, A, cp, E, rfl, below_step' HB.out HD.out.h.below HB.out.size, HI.out, h4, hlen, HRG.out, HGP.out⟩

set_option maxRecDepth 100000 in
set_option maxHeartbeats 8000000 in
theorem walk_BoundWindows (a0 : Int) (a1 : Int) (a2 : Int) (a3 : Int) (a4 : Option Addr) (len4 cap4 : Nat) (a5 : Option Addr) (len5 cap5 : Nat) (w : World) (w0 : (Lit.int .i64 a0).wf = true) (w1 : (Lit.int .i64 a1).wf = true) (w2 : (Lit.int .i64 a2).wf = true) (w3 : (Lit.int .i64 a3).wf = true) (w4 : IsRows w [.inr true, .inr true, .inl .u64, .inl .i64] a4 len4 cap4) (w5 : IsRows w [.inl .i64] a5 len5 cap5) :
    Calls Tryz.prog 3 #[.int .i64 a0, .int .i64 a1, .int .i64 a2, .int .i64 a3, .slice a4 len4 cap4, .slice a5 len5 cap5] w fun e w' => e = .returned (.bool true) ∧ Below w.heap.size w w' := by
  clear w0 w1 w2 w3
  rcases (by omega : 20 < len4 ∨ (len4 ≤ 20 ∧ 60 < len5) ∨ (len4 ≤ 20 ∧ len5 ≤ 60)) with hbig | ⟨hs4, hbig⟩ | ⟨hs4, hs5⟩
  · have p4 : decide ((20 : Int) < (len4 : Int)) = true := decide_eq_true (by omega)
    clear w4 w5
    go_enter Tryz.func3, Tryz.ntmps3
    go_wp2_with fail
    refine (head16_any _).mono ?_
    rintro e w1 ⟨rfl, hb1⟩
    go_wp2_with fail
    go_ret
    exact ⟨rfl, hb1⟩
  · have p4 : decide ((20 : Int) < (len4 : Int)) = false := decide_eq_false (by omega)
    have p5 : decide ((60 : Int) < (len5 : Int)) = true := decide_eq_true (by omega)
    clear w4 w5
    go_enter Tryz.func3, Tryz.ntmps3
    go_wp2_with fail
    refine (head16_any _).mono ?_
    rintro e w1 ⟨rfl, hb1⟩
    go_wp2_with fail
    go_ret
    exact ⟨rfl, hb1⟩
  have p4 : decide ((20 : Int) < (len4 : Int)) = false := decide_eq_false (by omega)
  have p5 : decide ((60 : Int) < (len5 : Int)) = false := decide_eq_false (by omega)
  obtain ⟨tb, off, X, hX⟩ := rows_aqs w4
  obtain ⟨pb, poff, P, hP⟩ := rows_pk w5
  have HX := Lib.hid hX
  have HP := Lib.hid hP
  clear w4 w5 hX hP
  go_enter Tryz.func3, Tryz.ntmps3
  go_wp2_with fail
  refine (head16_any _).mono ?_
  rintro e w1 ⟨rfl, hb1⟩
  have HX1 := Lib.hid (HX.out.later hb1)
  have HP1 := Lib.hid (HP.out.later hb1)
  have HB1 := Lib.hid hb1
  clear hb1 HX HP
  go_wp2_with fail
  refine (conf4_any _ _ _ _ _).mono ?_
  rintro e w2 ⟨t, s, so, d, rfl, t1, t4, s1, s4, o0, o4, d0, d3, hb2⟩
  have HX2 := Lib.hid (HX1.out.later hb2)
  have HP2 := Lib.hid (HP1.out.later hb2)
  have HB2 := Lib.hid (below_step HB1.out hb2)
  clear hb2 HX1 HP1 HB1
  obtain ⟨T, rfl⟩ : ∃ T : Nat, t = T := ⟨t.toNat, by omega⟩
  obtain ⟨N, Q, hbn⟩ := BN.mk' (t := T) (s := s) (so := so) (d := d) t1 (by omega) s1 (by omega) d0 (by omega) o0 o4
  have HBN := Lib.hid hbn
  clear hbn
  have hbs0 := below_new (Below.refl w2.heap.size w2) (.cells #[.int .i64 T, .int .i64 s, .int .i64 so, .int .i64 d] 27)
  have HA := Lib.hid (AtC.made w2 T s so d)
  have Hs : Hid (w2.heap.size < (w2.alloc (.cells #[.int .i64 T, .int .i64 s, .int .i64 so, .int .i64 d] 27)).heap.size) := Lib.hid (by simp)
  have HB3 := Lib.hid (below_step HB2.out hbs0)
  have HX3 := Lib.hid (HX2.out.later hbs0)
  have HP3 := Lib.hid (HP2.out.later hbs0)
  clear hbs0 HB2 HX2 HP2
  go_wp2_with fail
  generalize w2.alloc (.cells #[.int .i64 T, .int .i64 s, .int .i64 so, .int .i64 d] 27) = W at HA HB3 Hs HX3 HP3 ⊢
  generalize w2.heap.size = cb at HA Hs ⊢
  refine (work_any T s so d N Q HBN.out a4 a5 len4 cap4 len5 cap5 tb off pb poff X P W HX3.out HP3.out hs4 hs5).mono ?_
  rintro r w6 ⟨yb, A, cp, E, hp⟩
  obtain ⟨rfl, hb, hI, hcp, hlen, hrg, hgp⟩ := hp
  have HB6 := Lib.hid (below_step HB3.out hb)
  have HA6 := Lib.hid (HA.out.later hb Hs.out)
  have HI := Lib.hid hI
  have HRG := Lib.hid hrg
  obtain ⟨Wd, hWd⟩ : ∃ Wd, T * bL N Q T + 1 = Wd := ⟨_, rfl⟩
  rw [hWd] at hgp
  obtain ⟨G, hG⟩ : ∃ G, gapsV E 900 = G := ⟨_, rfl⟩
  have HWD := Lib.hid (fun w => bwin_any HBN.out T Wd rfl hWd w)
  have HGE := Lib.hid hG
  have hle : G ≤ (Wd : Int) := by rw [← hG]; exact hgp
  have HGA : Hid (Calls Tryz.prog 8 #[.slice A E.length cp, .int .i64 900] w6.drew fun r w' => r = .returned (i64 G) ∧ Below w6.drew.heap.size w6.drew w') := Lib.hid ((bgaps_any _ A cp E 900 (HI.out.later (Below.refl _ _).drew) hcp (by omega) (fun e he => by have := HRG.out e he; omega) ⟨by omega, by omega⟩).mono (fun r w' h => ⟨h.1.trans (ret_i64 HGE.out), h.2⟩))
  obtain ⟨q0, q1, q2, q3⟩ := HA6.out
  clear hWd hG hgp hb hI hrg
  go_wp2_with fail
  refine wp_region_seq ((0, true) :: (1, true) :: (2, true) :: (3, true) :: (5, true) :: (4, false) :: (6, false) :: (7, true) :: (8, true) :: (9, true) :: []) (by kernel_rfl) (by kernel_rfl) (by kernel_rfl) (by decide) (fun _ _ _ _ _ h => h) (fun hHeld => ?_)
  repeat (first
    | (refine seq_take (v := ?_) rfl ?_ ?_ ?_; rotate_left 1; rfl; (focus (intro wS hSw; have hk := below_rule hSw; go_simp; first | done | with_reducible rfl)); (try simp only [Act.put, List.setIfInBounds_toArray, List.set_cons_zero, List.set_cons_succ]))
    | (refine seq_skip rfl ?_ ?_; rfl; (try simp only [Act.put, List.setIfInBounds_toArray, List.set_cons_zero, List.set_cons_succ]))
    | (refine seq_run rfl (fun K hK => ?_); go_simp; (try (first | (go_at_call 8; refine (HGA.out).mono ?_; rintro e w' ⟨rfl, hb'⟩) | (go_at_call 9; refine (HWD.out _).mono ?_; rintro e w' ⟨rfl, hb'⟩))); (try go_wp2_with fail); refine hK.out _ _ ?_ ?_; (focus (first | exact below_step hHeld hb' | exact below_new hHeld _ | exact hHeld)); (try clear hb'); clear hHeld hK K; intro hHeld; (try simp only [Act.put, List.setIfInBounds_toArray, List.set_cons_zero, List.set_cons_succ])))
  first | refine seq_done ?_ | skip
  go_wp2_with fail
  go_ret
  exact ⟨rfl, below_step HB6.out hHeld⟩
end Go.Proofs.YtgoncakjkippkabGreat
