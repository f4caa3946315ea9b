/-
  YardCuts answers true for all lists and numbers, and leaves all memory that was there as it was. No condition.
-/
import Derived.Test.YthlmekkijknooaaGreatYardDeeds
namespace Go.Proofs.YthlmekkijknooaaGreat
open Go.RowKit
set_option linter.unusedVariables false

set_option maxRecDepth 100000 in
set_option maxHeartbeats 8000000 in
theorem walk_YardCuts (a0 : Int) (a1 : Int) (a2 : Int) (a3 : Option Addr) (len3 cap3 : Nat) (a4 : Int) (w : World) (w0 : (Lit.int .i64 a0).wf = true) (w1 : (Lit.int .i64 a1).wf = true) (w2 : (Lit.int .i64 a2).wf = true) (w3 : IsRows w [.inl .i64, .inl .i64, .inr true, .inr true, .inl .u64, .inl .i64, .inl .i64] a3 len3 cap3) (w4 : (Lit.int .i64 a4).wf = true) :
    Calls Tryz.prog 7 #[.int .i64 a0, .int .i64 a1, .int .i64 a2, .slice a3 len3 cap3, .int .i64 a4] w fun e w' => e = .returned (.bool true) ∧ Below w.heap.size w w' := by
  have hlc : len3 ≤ cap3 := w3.1
  clear w0 w1 w2 w4
  rcases Nat.lt_or_ge 300 len3 with hbig | hs4
  · have hbig' : (300 : Int) < (len3 : Int) := by omega
    clear w3
    go_enter Tryz.func7, Tryz.ntmps7
    go_wp2_with fail
    refine (head13_any _).mono ?_
    rintro e w1 ⟨rfl, hb1⟩
    go_wp2_with fail
    go_ret
    exact ⟨rfl, hb1⟩
  have p4 : decide ((300 : Int) < (len3 : Int)) = false := decide_eq_false (by omega)
  obtain ⟨tb, off, X, hX⟩ := rows_mvs w3
  have HX0 : Hid (IsMvs w a3 len3 cap3 tb off X) := hX
  clear w3 hX
  go_enter Tryz.func7, Tryz.ntmps7
  go_wp2_with fail
  refine (head13_any _).mono ?_
  rintro e w1 ⟨rfl, hb1⟩
  go_wp2_with fail
  refine (conf4_any _ _ _ _ _).mono ?_
  rintro e w2 ⟨t, s, so, d, rfl, t1, t4, s1, s4, o0, o4, d0, d3, hb2⟩
  have hB2 := Lib.hid (below_step hb1 hb2)
  clear hb1 hb2
  obtain ⟨N, hNe, hlay, hN1, hN2⟩ := lay44 t1 t4 s1 s4
  clear hNe
  obtain ⟨T, rfl⟩ : ∃ T : Nat, t = T := ⟨t.toNat, by omega⟩
  go_wp2_with fail
  have hA := AtC.made w2 T s so d
  have hB3 := below_new (Below.refl w2.heap.size w2) (.cells #[.int .i64 T, .int .i64 s, .int .i64 so, .int .i64 d] 26)
  have hs3 : w2.heap.size < (w2.alloc (.cells #[.int .i64 T, .int .i64 s, .int .i64 so, .int .i64 d] 26)).heap.size := by simp
  have HA := Lib.hid hA
  have HB := Lib.hid (below_step hB2.out hB3)
  have Hs := Lib.hid hs3
  clear hA hB3 hs3 hB2
  generalize w2.alloc (.cells #[.int .i64 T, .int .i64 s, .int .i64 so, .int .i64 d] 26) = W at HA HB Hs ⊢
  generalize w2.heap.size = cb at HA Hs ⊢
  clear w2 w1
  have HX : Hid (IsMvs W a3 len3 cap3 tb off X) := Lib.hid (HX0.out.later HB.out (fun i hi => (HX0.out i hi).2.2.1))
  clear HX0
  refine (ynew_yes (W := W) T s so d N (Below.refl _ _) hlay o0 o4 d0 (by omega)).mono ?_
  rintro r w3 ⟨yb, ytb, p, c, l0, rfl, hl4, hY, hb, hyb⟩
  have HD0 := Lib.hid (YdL.start hlay o0 o4 d0 (by omega) hY)
  have HL4 := Lib.hid hl4
  clear hY hb hyb hl4
  obtain ⟨m, hm, hml⟩ : ∃ m : Nat, (IntKind.u64.wrap a4).tmod (len3 + 1) = m ∧ m ≤ len3 := by
    have h0 : 0 ≤ IntKind.u64.wrap a4 := by rw [IntKind.wrap_u64]; omega
    rw [Int.tmod_eq_emod_of_nonneg h0]
    have := Int.emod_nonneg (IntKind.u64.wrap a4) (show (len3 : Int) + 1 ≠ 0 by omega)
    have := Int.emod_lt_of_pos (IntKind.u64.wrap a4) (show 0 < (len3 : Int) + 1 by omega)
    exact ⟨(IntKind.u64.wrap a4 % ((len3 : Int) + 1)).toNat, by omega, by omega⟩
  have hwm : wrap64 (m : Int) = m := by unfold wrap64; omega
  go_wp2_with fail
  clear hm hwm
  go_loopw [51] (fun ix wr => ∃ (i : Nat) (l : List Thing) (Y : Yd) (J : Nat → Nat), i ≤ m ∧ ix = .int .i64 i ∧ Hid (YdL W wr l ⟨yb, ytb, p, c, T, s, so, d, T⟩ N Y J i)) (fun ix _ => m - (intOf ix).toNat)
  case atStart => exact ⟨0, _, _, _, Nat.zero_le _, rfl, HD0⟩
  case round =>
    clear HD0
    obtain ⟨i, l, Y, J, hi3, rfl, HD⟩ := hrel
    rcases Nat.lt_or_ge i m with him | him
    · have hi' : (i : Int) < (m : Int) := by omega
      have hi : i < len3 := by omega
      obtain ⟨rfl, hcap, htb, hx, x0, x1⟩ := HX.out i hi
      have hW1 := HD.out.h.below
      have hx' := hx.later hW1 htb
      obtain ⟨e0, e1, e2, e3, e4, e5, e6⟩ := hx'
      clear hW1 hx
      obtain ⟨q0, q1, q2, q3⟩ := HA.out.later HD.out.h.below Hs.out
      have hcb : cb < wr.heap.size := Nat.lt_of_lt_of_le Hs.out HD.out.h.size
      have hbx := below_new (Below.refl wr.heap.size wr) (.cells (X (i)).list.toArray 41)
      have HD2 := Lib.hid (HD.out.later hbx)
      clear hbx
      go_wp2_with fail
      refine (HD2.out.do (by omega) (X (i)) x0 x1).mono ?_
      rintro r w4 ⟨rfl, l1, J1, Y1, _, hd, _⟩
      have HD1 := Lib.hid hd
      clear hd e0 e1 e2 e3 e4 e5 e6 q0 q1 q2 q3 hcb HD HD2
      go_wp2_with fail
      go_roundw
      case rel => exact ⟨i + 1, l1, Y1, J1, by omega, by go_num, HD1⟩
      case measure => first | omega | (simp [intOf]; done) | (simp [intOf]; omega)
    · obtain rfl : i = m := by omega
      have hnn : ¬ (i : Int) < (i : Int) := by omega
      clear him hi3
      go_wp2_with fail
      refine (HD.out.deeds (by omega)).mono ?_
      rintro r w4 ⟨u4, rfl, hr4, hb4⟩
      obtain ⟨A4, cap4, rfl⟩ := own_shape hr4
      have HR := Lib.hid (HD.out.rest (tRow W.heap.size 55 11 (.slice A4 Y.ds.length cap4) Y.ds.length (flatD Y.ds)))
      have HDM := Lib.hid (HD.out.more (A := tRow W.heap.size 55 11 (.slice A4 Y.ds.length cap4) Y.ds.length (flatD Y.ds)) hb4 (tRow_ok _ _ _ _ _ _) (row_base hr4 HD.out.h.size) (fun q hq => (hr4.lt q hq).1))
      have HNL := Lib.hid (show Y.ds.length ≤ 1000 ∧ Y.L.length ≤ 1000 by have := HD.out.ok.nds; have := HD.out.ok.nL; have := HD.out.ok.most; omega)
      clear hr4 hb4
      generalize l.length = j0 at HR
      generalize l ++ [tRow W.heap.size 55 11 (.slice A4 Y.ds.length cap4) Y.ds.length (flatD Y.ds)] = l1 at HR HDM
      clear HD
      go_wp2_with fail
      refine (HDM.out.log (by omega)).mono ?_
      rintro r w5 ⟨u5, rfl, hr5, hb5⟩
      obtain ⟨A5, cap5, rfl⟩ := own_shape hr5
      have HR5 := Lib.hid (HDM.out.rest (tRow W.heap.size 72 6 (.slice A5 Y.L.length cap5) Y.L.length (flatE Y.L)))
      replace HR := Lib.hid (HR.out.go (YGo.more Y l1 (tRow W.heap.size 72 6 (.slice A5 Y.L.length cap5) Y.L.length (flatE Y.L)) J))
      replace HDM := Lib.hid (HDM.out.more (A := tRow W.heap.size 72 6 (.slice A5 Y.L.length cap5) Y.L.length (flatE Y.L)) hb5 (tRow_ok _ _ _ _ _ _) (row_base hr5 HDM.out.h.size) (fun q hq => (hr5.lt q hq).1))
      clear hr5 hb5
      generalize l1.length = j1 at HR5
      generalize l1 ++ [tRow W.heap.size 72 6 (.slice A5 Y.L.length cap5) Y.L.length (flatE Y.L)] = l2 at HR HR5 HDM
      obtain ⟨r, rfl⟩ : ∃ r, len3 = i + r := ⟨len3 - i, by omega⟩
      have hir : (i : Int) ≤ ((i + r : Nat) : Int) := by omega
      have hic : (i : Int) ≤ (cap3 : Int) := by omega
      rcases Nat.eq_zero_or_pos r with hr0 | hr0
      · by_cases hci : cap3 = i
        · have hci' : (cap3 : Int) = (i : Int) := by omega
          go_wp2_with fail
          go_loopw [69] (fun ix wr => ∃ (q : Nat) (l : List Thing) (Y2 : Yd) (J2 : Nat → Nat), q ≤ r ∧ ix = .int .i64 q ∧ Hid (YdL W wr l ⟨yb, ytb, p, c, T, s, so, d, T⟩ N Y2 J2 (i + q)) ∧ Hid (Rest Y2 l J2 j0 (tRow W.heap.size 55 11 (.slice A4 Y.ds.length cap4) Y.ds.length (flatD Y.ds))) ∧ Hid (Rest Y2 l J2 j1 (tRow W.heap.size 72 6 (.slice A5 Y.L.length cap5) Y.L.length (flatE Y.L))) ∧ Hid (YLater Y Y2)) (fun ix _ => r - (intOf ix).toNat)
          case atStart => exact ⟨0, _, _, _, Nat.zero_le _, rfl, HDM, HR, HR5, YLater.refl Y⟩
          case round =>
            clear HDM HR HR5
            obtain ⟨q, l3, Y2, J2, hqr, rfl, HD, HR, HR5, HYL⟩ := hrel
            rcases Nat.lt_or_ge q r with hq | hq
            · exfalso
              omega
            · obtain rfl : q = r := by omega
              have hnn2 : ¬ (q : Int) < (q : Int) := by omega
              obtain ⟨E, hE⟩ := HYL.out.log
              go_wp2_with fail
              refine (HD.out.deeds (by omega)).mono ?_
              rintro r6 w6 ⟨u6, rfl, hr6, hb6⟩
              obtain ⟨A6, cap6, rfl⟩ := own_shape hr6
              have HR6 := Lib.hid (HD.out.rest (tRow W.heap.size 55 11 (.slice A6 Y2.ds.length cap6) Y2.ds.length (flatD Y2.ds)))
              replace HR := Lib.hid (HR.out.go (YGo.more Y2 l3 (tRow W.heap.size 55 11 (.slice A6 Y2.ds.length cap6) Y2.ds.length (flatD Y2.ds)) J2))
              replace HR5 := Lib.hid (HR5.out.go (YGo.more Y2 l3 (tRow W.heap.size 55 11 (.slice A6 Y2.ds.length cap6) Y2.ds.length (flatD Y2.ds)) J2))
              replace HD := Lib.hid (HD.out.more (A := tRow W.heap.size 55 11 (.slice A6 Y2.ds.length cap6) Y2.ds.length (flatD Y2.ds)) hb6 (tRow_ok _ _ _ _ _ _) (row_base hr6 HD.out.h.size) (fun q hq => (hr6.lt q hq).1))
              clear hr6 hb6
              generalize l3.length = j2 at HR6
              generalize l3 ++ [tRow W.heap.size 55 11 (.slice A6 Y2.ds.length cap6) Y2.ds.length (flatD Y2.ds)] = l5 at HR HR5 HR6 HD
              have hlen : Y.ds.length ≤ Y2.ds.length := YLater.dlen HYL.out
              have hlen' : ¬ (Y2.ds.length : Int) < (Y.ds.length : Int) := by omega
              have HE := Lib.hid hE
              have hll : Y2.L.length = Y.L.length + E.length := by rw [hE, List.length_append]
              have hll' : ¬ (Y2.L.length : Int) < (Y.L.length : Int) := by omega
              clear hE hll
              go_wp2_with fail
              refine (HD.out.log (by omega)).mono ?_
              rintro r7 w7 ⟨u7, rfl, hr7, hb7⟩
              obtain ⟨A7, cap7, rfl⟩ := own_shape hr7
              replace HD := Lib.hid (HD.out.later hb7)
              clear hr7 hb7
              go_wp2_with fail
              refine (HD.out.log (by omega)).mono ?_
              rintro r8 w8 ⟨u8, rfl, hr8, hb8⟩
              obtain ⟨A8, cap8, rfl⟩ := own_shape hr8
              replace HD := Lib.hid (HD.out.later hb8)
              have hc8 : Y2.L.length ≤ cap8 := own_cap hr8
              have hc8' : (Y.L.length : Int) ≤ (cap8 : Int) := by omega
              rw [HE.out] at hr8
              have HE8 : Hid (EvAt w8 A8 Y.L) := Lib.hid (EvAt.row hr8)
              have HE5 : Hid (EvAt w8 A5 Y.L) := Lib.hid (EvAt.row0 (HD.out.has HR5.out))
              clear hr8 hb8
              go_wp2_with fail
              refine (same_any _ _ _ _ _ Y.L HE8.out HE5.out (by have := HNL.out; omega)).mono ?_
              rintro r9 w9 ⟨rfl, hb9⟩
              replace HD := Lib.hid (HD.out.later hb9)
              clear hb9 HE8 HE5 hlen' hll' hc8' HR5
              go_wp2_with fail
              go_loopw [106] (fun ix wr => ∃ e : Nat, e ≤ Y.ds.length ∧ ix = .int .i64 e ∧ Hid (YdL W wr l5 ⟨yb, ytb, p, c, T, s, so, d, T⟩ N Y2 J2 (i + q))) (fun ix _ => 2000 - (intOf ix).toNat)
              case atStart => exact ⟨0, Nat.zero_le _, rfl, HD⟩
              case round =>
                clear HD
                obtain ⟨e, he, rfl, HD⟩ := hrel
                have hnl := HNL.out
                rcases Nat.lt_or_ge e Y.ds.length with hel | hel
                · have hel' : (e : Int) < (Y.ds.length : Int) := by omega
                  have hel2 : (e : Int) < (Y2.ds.length : Int) := by omega
                  obtain ⟨dd, hdd⟩ : ∃ dd, Y.ds[e]? = some dd := ⟨_, List.getElem?_eq_getElem hel⟩
                  obtain ⟨d2, hd2, y1, y2, y3, y4, y5, y6, y7⟩ := HYL.out.deed e dd hdd
                  have hti := HD.out.ok.tills' hd2
                  have r4 : wr.ownsRow W.heap.size 55 11 (.slice A4 Y.ds.length cap4) Y.ds.length (flatD Y.ds) := HD.out.has HR.out
                  have r6 : wr.ownsRow W.heap.size 55 11 (.slice A6 Y2.ds.length cap6) Y2.ds.length (flatD Y2.ds) := HD.out.has HR6.out
                  obtain ⟨g4, cap4', hv⟩ := own_at r4 (by omega)
                  cases hv
                  obtain ⟨g6, cap6', hv⟩ := own_at r6 (by omega)
                  cases hv
                  have HA4 : Hid (AtDd wr g4 (e * 11) dd) := Lib.hid (AtDd.row r4 hdd)
                  have HA6 : Hid (AtDd wr g6 (e * 11) d2) := Lib.hid (AtDd.row r6 hd2)
                  have hd6 : d2 = ⟨dd.who, dd.kd, dd.e, dd.x, dd.s, dd.fr, d2.till, d2.ok, d2.v, d2.lo, d2.hi⟩ := by rw [← y1, ← y2, ← y3, ← y4, ← y5, ← y6]
                  have HD6 := Lib.hid hd6
                  have HY7 := Lib.hid y7
                  clear r4 r6 hdd hd2 y1 y2 y3 y4 y5 y6 y7 hd6
                  have hbx := below_new (Below.refl wr.heap.size wr) (.cells dd.list.toArray 55)
                  have HBX := Lib.hid (AtBd.of (IsObj.made wr dd.list 55).drew)
                  have HD2 := Lib.hid (HD.out.later hbx)
                  have HA6' := Lib.hid ((HA6.out.later hbx).later (Below.refl _ _).drew)
                  clear hbx HD HA6
                  obtain ⟨c0, c1, c2, c3, c4, c5, c6, c7, c8, c9, c10⟩ := HA4.out
                  go_wp2_with fail
                  clear c0 c1 c2 c3 c4 c5 c6 c7 c8 c9 c10
                  by_cases ht : dd.till = -1
                  · have ht' : ¬ 0 ≤ dd.till := by omega
                    clear ht hti HY7
                    rw [HD6.out] at HA6'
                    refine wp_region_seqS ((fun w' => AtBd w' wr.heap.size dd ∧ AtDd w' g6 (e * 11) ⟨dd.who, dd.kd, dd.e, dd.x, dd.s, dd.fr, d2.till, d2.ok, d2.v, d2.lo, d2.hi⟩)) ((0, true) :: (1, true) :: (2, true) :: (3, true) :: (4, true) :: (5, true) :: (6, true) :: (7, true) :: (8, true) :: (9, true) :: (10, true) :: (11, true) :: (12, true) :: (13, true) :: (14, true) :: (15, true) :: (16, true) :: (17, true) :: (18, true) :: (19, true) :: (20, true) :: (21, true) :: (22, true) :: (23, true) :: (24, true) :: (25, true) :: (26, true) :: (27, true) :: (28, true) :: (29, true) :: (30, true) :: (31, true) :: (32, true) :: (33, true) :: (34, true) :: (35, true) :: (36, true) :: (37, true) :: (38, true) :: (39, true) :: (40, true) :: []) (by kernel_rfl) (by kernel_rfl) (by kernel_rfl) (by decide) (fun _ _ _ _ _ h => h) (⟨HBX.out, HA6'.out⟩) ?_
                    repeat (first | (refine seq_take (v := ?_) rfl ?_ ?_ ?_; rotate_left 1; rfl; (focus (intro wS hSw; obtain ⟨⟨c0, c1, c2, c3, c4, c5, c6, c7, c8, c9, c10⟩, ⟨b0, b1, b2, b3, b4, b5, b6, b7, b8, b9, b10⟩⟩ := hSw; go_simp; first | done | with_reducible rfl)); (try simp only [Act.put, List.setIfInBounds_toArray, List.set_cons_zero, List.set_cons_succ])) | (refine seq_skip rfl ?_ ?_; rfl; (try simp only [Act.put, List.setIfInBounds_toArray, List.set_cons_zero, List.set_cons_succ])))
                    refine seq_done ?_
                    replace HD2 := Lib.hid (HD2.out.later (Below.refl _ _).drew)
                    go_wp2_with fail
                    go_roundw
                    case rel => exact ⟨e + 1, by omega, by go_num, HD2⟩
                    case measure => first | omega | (simp [intOf]; done) | (simp [intOf]; omega)
                  · have hd22 := HY7.out ht
                    subst hd22
                    have ht' : 0 ≤ d2.till := by omega
                    clear ht hti HY7
                    refine wp_region_seqS ((fun w' => AtBd w' wr.heap.size d2 ∧ AtDd w' g6 (e * 11) d2)) ((0, true) :: (1, true) :: (2, true) :: (3, true) :: (4, true) :: (5, true) :: (6, true) :: (7, true) :: (8, true) :: (9, true) :: (10, true) :: (11, true) :: (12, true) :: (13, true) :: (14, true) :: (15, true) :: (16, true) :: (17, true) :: (18, true) :: (19, true) :: (20, true) :: (21, true) :: (22, true) :: (23, true) :: (24, true) :: (25, true) :: (26, true) :: (27, true) :: (28, true) :: (29, true) :: (30, true) :: (31, true) :: (32, true) :: (33, true) :: (34, true) :: (35, true) :: (36, true) :: (37, true) :: (38, true) :: (39, true) :: (40, true) :: []) (by kernel_rfl) (by kernel_rfl) (by kernel_rfl) (by decide) (fun _ _ _ _ _ h => h) (⟨HBX.out, HA6'.out⟩) ?_
                    repeat (first | (refine seq_take (v := ?_) rfl ?_ ?_ ?_; rotate_left 1; rfl; (focus (intro wS hSw; obtain ⟨⟨c0, c1, c2, c3, c4, c5, c6, c7, c8, c9, c10⟩, ⟨b0, b1, b2, b3, b4, b5, b6, b7, b8, b9, b10⟩⟩ := hSw; go_simp; first | done | with_reducible rfl)); (try simp only [Act.put, List.setIfInBounds_toArray, List.set_cons_zero, List.set_cons_succ])) | (refine seq_skip rfl ?_ ?_; rfl; (try simp only [Act.put, List.setIfInBounds_toArray, List.set_cons_zero, List.set_cons_succ])))
                    refine seq_done ?_
                    replace HD2 := Lib.hid (HD2.out.later (Below.refl _ _).drew)
                    go_wp2_with fail
                    go_roundw
                    case rel => exact ⟨e + 1, by omega, by go_num, HD2⟩
                    case measure => first | omega | (simp [intOf]; done) | (simp [intOf]; omega)
                · obtain rfl : e = Y.ds.length := by omega
                  have hnn3 : ¬ (Y.ds.length : Int) < (Y.ds.length : Int) := by omega
                  go_wp2
                  go_ret
                  exact ⟨rfl, below_step' HB.out HD.out.h.below HB.out.size⟩
        · have hci' : ¬ (cap3 : Int) = (i : Int) := by omega
          go_wp2_with fail
          go_loopw [69] (fun ix wr => ∃ (q : Nat) (l : List Thing) (Y2 : Yd) (J2 : Nat → Nat), q ≤ r ∧ ix = .int .i64 q ∧ Hid (YdL W wr l ⟨yb, ytb, p, c, T, s, so, d, T⟩ N Y2 J2 (i + q)) ∧ Hid (Rest Y2 l J2 j0 (tRow W.heap.size 55 11 (.slice A4 Y.ds.length cap4) Y.ds.length (flatD Y.ds))) ∧ Hid (Rest Y2 l J2 j1 (tRow W.heap.size 72 6 (.slice A5 Y.L.length cap5) Y.L.length (flatE Y.L))) ∧ Hid (YLater Y Y2)) (fun ix _ => r - (intOf ix).toNat)
          case atStart => exact ⟨0, _, _, _, Nat.zero_le _, rfl, HDM, HR, HR5, YLater.refl Y⟩
          case round =>
            clear HDM HR HR5
            obtain ⟨q, l3, Y2, J2, hqr, rfl, HD, HR, HR5, HYL⟩ := hrel
            rcases Nat.lt_or_ge q r with hq | hq
            · exfalso
              omega
            · obtain rfl : q = r := by omega
              have hnn2 : ¬ (q : Int) < (q : Int) := by omega
              obtain ⟨E, hE⟩ := HYL.out.log
              go_wp2_with fail
              refine (HD.out.deeds (by omega)).mono ?_
              rintro r6 w6 ⟨u6, rfl, hr6, hb6⟩
              obtain ⟨A6, cap6, rfl⟩ := own_shape hr6
              have HR6 := Lib.hid (HD.out.rest (tRow W.heap.size 55 11 (.slice A6 Y2.ds.length cap6) Y2.ds.length (flatD Y2.ds)))
              replace HR := Lib.hid (HR.out.go (YGo.more Y2 l3 (tRow W.heap.size 55 11 (.slice A6 Y2.ds.length cap6) Y2.ds.length (flatD Y2.ds)) J2))
              replace HR5 := Lib.hid (HR5.out.go (YGo.more Y2 l3 (tRow W.heap.size 55 11 (.slice A6 Y2.ds.length cap6) Y2.ds.length (flatD Y2.ds)) J2))
              replace HD := Lib.hid (HD.out.more (A := tRow W.heap.size 55 11 (.slice A6 Y2.ds.length cap6) Y2.ds.length (flatD Y2.ds)) hb6 (tRow_ok _ _ _ _ _ _) (row_base hr6 HD.out.h.size) (fun q hq => (hr6.lt q hq).1))
              clear hr6 hb6
              generalize l3.length = j2 at HR6
              generalize l3 ++ [tRow W.heap.size 55 11 (.slice A6 Y2.ds.length cap6) Y2.ds.length (flatD Y2.ds)] = l5 at HR HR5 HR6 HD
              have hlen : Y.ds.length ≤ Y2.ds.length := YLater.dlen HYL.out
              have hlen' : ¬ (Y2.ds.length : Int) < (Y.ds.length : Int) := by omega
              have HE := Lib.hid hE
              have hll : Y2.L.length = Y.L.length + E.length := by rw [hE, List.length_append]
              have hll' : ¬ (Y2.L.length : Int) < (Y.L.length : Int) := by omega
              clear hE hll
              go_wp2_with fail
              refine (HD.out.log (by omega)).mono ?_
              rintro r7 w7 ⟨u7, rfl, hr7, hb7⟩
              obtain ⟨A7, cap7, rfl⟩ := own_shape hr7
              replace HD := Lib.hid (HD.out.later hb7)
              clear hr7 hb7
              go_wp2_with fail
              refine (HD.out.log (by omega)).mono ?_
              rintro r8 w8 ⟨u8, rfl, hr8, hb8⟩
              obtain ⟨A8, cap8, rfl⟩ := own_shape hr8
              replace HD := Lib.hid (HD.out.later hb8)
              have hc8 : Y2.L.length ≤ cap8 := own_cap hr8
              have hc8' : (Y.L.length : Int) ≤ (cap8 : Int) := by omega
              rw [HE.out] at hr8
              have HE8 : Hid (EvAt w8 A8 Y.L) := Lib.hid (EvAt.row hr8)
              have HE5 : Hid (EvAt w8 A5 Y.L) := Lib.hid (EvAt.row0 (HD.out.has HR5.out))
              clear hr8 hb8
              go_wp2_with fail
              refine (same_any _ _ _ _ _ Y.L HE8.out HE5.out (by have := HNL.out; omega)).mono ?_
              rintro r9 w9 ⟨rfl, hb9⟩
              replace HD := Lib.hid (HD.out.later hb9)
              clear hb9 HE8 HE5 hlen' hll' hc8' HR5
              go_wp2_with fail
              go_loopw [106] (fun ix wr => ∃ e : Nat, e ≤ Y.ds.length ∧ ix = .int .i64 e ∧ Hid (YdL W wr l5 ⟨yb, ytb, p, c, T, s, so, d, T⟩ N Y2 J2 (i + q))) (fun ix _ => 2000 - (intOf ix).toNat)
              case atStart => exact ⟨0, Nat.zero_le _, rfl, HD⟩
              case round =>
                clear HD
                obtain ⟨e, he, rfl, HD⟩ := hrel
                have hnl := HNL.out
                rcases Nat.lt_or_ge e Y.ds.length with hel | hel
                · have hel' : (e : Int) < (Y.ds.length : Int) := by omega
                  have hel2 : (e : Int) < (Y2.ds.length : Int) := by omega
                  obtain ⟨dd, hdd⟩ : ∃ dd, Y.ds[e]? = some dd := ⟨_, List.getElem?_eq_getElem hel⟩
                  obtain ⟨d2, hd2, y1, y2, y3, y4, y5, y6, y7⟩ := HYL.out.deed e dd hdd
                  have hti := HD.out.ok.tills' hd2
                  have r4 : wr.ownsRow W.heap.size 55 11 (.slice A4 Y.ds.length cap4) Y.ds.length (flatD Y.ds) := HD.out.has HR.out
                  have r6 : wr.ownsRow W.heap.size 55 11 (.slice A6 Y2.ds.length cap6) Y2.ds.length (flatD Y2.ds) := HD.out.has HR6.out
                  obtain ⟨g4, cap4', hv⟩ := own_at r4 (by omega)
                  cases hv
                  obtain ⟨g6, cap6', hv⟩ := own_at r6 (by omega)
                  cases hv
                  have HA4 : Hid (AtDd wr g4 (e * 11) dd) := Lib.hid (AtDd.row r4 hdd)
                  have HA6 : Hid (AtDd wr g6 (e * 11) d2) := Lib.hid (AtDd.row r6 hd2)
                  have hd6 : d2 = ⟨dd.who, dd.kd, dd.e, dd.x, dd.s, dd.fr, d2.till, d2.ok, d2.v, d2.lo, d2.hi⟩ := by rw [← y1, ← y2, ← y3, ← y4, ← y5, ← y6]
                  have HD6 := Lib.hid hd6
                  have HY7 := Lib.hid y7
                  clear r4 r6 hdd hd2 y1 y2 y3 y4 y5 y6 y7 hd6
                  have hbx := below_new (Below.refl wr.heap.size wr) (.cells dd.list.toArray 55)
                  have HBX := Lib.hid (AtBd.of (IsObj.made wr dd.list 55).drew)
                  have HD2 := Lib.hid (HD.out.later hbx)
                  have HA6' := Lib.hid ((HA6.out.later hbx).later (Below.refl _ _).drew)
                  clear hbx HD HA6
                  obtain ⟨c0, c1, c2, c3, c4, c5, c6, c7, c8, c9, c10⟩ := HA4.out
                  go_wp2_with fail
                  clear c0 c1 c2 c3 c4 c5 c6 c7 c8 c9 c10
                  by_cases ht : dd.till = -1
                  · have ht' : ¬ 0 ≤ dd.till := by omega
                    clear ht hti HY7
                    rw [HD6.out] at HA6'
                    refine wp_region_seqS ((fun w' => AtBd w' wr.heap.size dd ∧ AtDd w' g6 (e * 11) ⟨dd.who, dd.kd, dd.e, dd.x, dd.s, dd.fr, d2.till, d2.ok, d2.v, d2.lo, d2.hi⟩)) ((0, true) :: (1, true) :: (2, true) :: (3, true) :: (4, true) :: (5, true) :: (6, true) :: (7, true) :: (8, true) :: (9, true) :: (10, true) :: (11, true) :: (12, true) :: (13, true) :: (14, true) :: (15, true) :: (16, true) :: (17, true) :: (18, true) :: (19, true) :: (20, true) :: (21, true) :: (22, true) :: (23, true) :: (24, true) :: (25, true) :: (26, true) :: (27, true) :: (28, true) :: (29, true) :: (30, true) :: (31, true) :: (32, true) :: (33, true) :: (34, true) :: (35, true) :: (36, true) :: (37, true) :: (38, true) :: (39, true) :: (40, true) :: []) (by kernel_rfl) (by kernel_rfl) (by kernel_rfl) (by decide) (fun _ _ _ _ _ h => h) (⟨HBX.out, HA6'.out⟩) ?_
                    repeat (first | (refine seq_take (v := ?_) rfl ?_ ?_ ?_; rotate_left 1; rfl; (focus (intro wS hSw; obtain ⟨⟨c0, c1, c2, c3, c4, c5, c6, c7, c8, c9, c10⟩, ⟨b0, b1, b2, b3, b4, b5, b6, b7, b8, b9, b10⟩⟩ := hSw; go_simp; first | done | with_reducible rfl)); (try simp only [Act.put, List.setIfInBounds_toArray, List.set_cons_zero, List.set_cons_succ])) | (refine seq_skip rfl ?_ ?_; rfl; (try simp only [Act.put, List.setIfInBounds_toArray, List.set_cons_zero, List.set_cons_succ])))
                    refine seq_done ?_
                    replace HD2 := Lib.hid (HD2.out.later (Below.refl _ _).drew)
                    go_wp2_with fail
                    go_roundw
                    case rel => exact ⟨e + 1, by omega, by go_num, HD2⟩
                    case measure => first | omega | (simp [intOf]; done) | (simp [intOf]; omega)
                  · have hd22 := HY7.out ht
                    subst hd22
                    have ht' : 0 ≤ d2.till := by omega
                    clear ht hti HY7
                    refine wp_region_seqS ((fun w' => AtBd w' wr.heap.size d2 ∧ AtDd w' g6 (e * 11) d2)) ((0, true) :: (1, true) :: (2, true) :: (3, true) :: (4, true) :: (5, true) :: (6, true) :: (7, true) :: (8, true) :: (9, true) :: (10, true) :: (11, true) :: (12, true) :: (13, true) :: (14, true) :: (15, true) :: (16, true) :: (17, true) :: (18, true) :: (19, true) :: (20, true) :: (21, true) :: (22, true) :: (23, true) :: (24, true) :: (25, true) :: (26, true) :: (27, true) :: (28, true) :: (29, true) :: (30, true) :: (31, true) :: (32, true) :: (33, true) :: (34, true) :: (35, true) :: (36, true) :: (37, true) :: (38, true) :: (39, true) :: (40, true) :: []) (by kernel_rfl) (by kernel_rfl) (by kernel_rfl) (by decide) (fun _ _ _ _ _ h => h) (⟨HBX.out, HA6'.out⟩) ?_
                    repeat (first | (refine seq_take (v := ?_) rfl ?_ ?_ ?_; rotate_left 1; rfl; (focus (intro wS hSw; obtain ⟨⟨c0, c1, c2, c3, c4, c5, c6, c7, c8, c9, c10⟩, ⟨b0, b1, b2, b3, b4, b5, b6, b7, b8, b9, b10⟩⟩ := hSw; go_simp; first | done | with_reducible rfl)); (try simp only [Act.put, List.setIfInBounds_toArray, List.set_cons_zero, List.set_cons_succ])) | (refine seq_skip rfl ?_ ?_; rfl; (try simp only [Act.put, List.setIfInBounds_toArray, List.set_cons_zero, List.set_cons_succ])))
                    refine seq_done ?_
                    replace HD2 := Lib.hid (HD2.out.later (Below.refl _ _).drew)
                    go_wp2_with fail
                    go_roundw
                    case rel => exact ⟨e + 1, by omega, by go_num, HD2⟩
                    case measure => first | omega | (simp [intOf]; done) | (simp [intOf]; omega)
                · obtain rfl : e = Y.ds.length := by omega
                  have hnn3 : ¬ (Y.ds.length : Int) < (Y.ds.length : Int) := by omega
                  go_wp2
                  go_ret
                  exact ⟨rfl, below_step' HB.out HD.out.h.below HB.out.size⟩
      · obtain ⟨rfl, hcap0, _, _, _, _⟩ := HX.out i (by omega)
        have hci' : ¬ (cap3 : Int) = (i : Int) := by omega
        go_wp2_with fail
        go_loopw [69] (fun ix wr => ∃ (q : Nat) (l : List Thing) (Y2 : Yd) (J2 : Nat → Nat), q ≤ r ∧ ix = .int .i64 q ∧ Hid (YdL W wr l ⟨yb, ytb, p, c, T, s, so, d, T⟩ N Y2 J2 (i + q)) ∧ Hid (Rest Y2 l J2 j0 (tRow W.heap.size 55 11 (.slice A4 Y.ds.length cap4) Y.ds.length (flatD Y.ds))) ∧ Hid (Rest Y2 l J2 j1 (tRow W.heap.size 72 6 (.slice A5 Y.L.length cap5) Y.L.length (flatE Y.L))) ∧ Hid (YLater Y Y2)) (fun ix _ => r - (intOf ix).toNat)
        case atStart => exact ⟨0, _, _, _, Nat.zero_le _, rfl, HDM, HR, HR5, YLater.refl Y⟩
        case round =>
          clear HDM HR HR5
          obtain ⟨q, l3, Y2, J2, hqr, rfl, HD, HR, HR5, HYL⟩ := hrel
          rcases Nat.lt_or_ge q r with hq | hq
          · have hi' : (q : Int) < (r : Int) := by omega
            have hi : i + q < i + r := by omega
            obtain ⟨_, hcap, htb, hx, x0, x1⟩ := HX.out (i + q) hi
            have hx' := hx.later HD.out.h.below htb
            rw [Nat.add_mul, ← Nat.add_assoc] at hx'
            obtain ⟨e0, e1, e2, e3, e4, e5, e6⟩ := hx'
            clear hx
            obtain ⟨q0, q1, q2, q3⟩ := HA.out.later HD.out.h.below Hs.out
            have hcb : cb < wr.heap.size := Nat.lt_of_lt_of_le Hs.out HD.out.h.size
            have hbx := below_new (Below.refl wr.heap.size wr) (.cells (X (i + q)).list.toArray 41)
            have HD2 := Lib.hid (HD.out.later hbx)
            clear hbx
            go_wp2_with fail
            refine (HD2.out.do (by omega) (X (i + q)) x0 x1).mono ?_
            rintro r4 w6 ⟨rfl, l4, J4, Y4, hdo, hd, hg⟩
            have HD1 := Lib.hid hd
            have HR1 := Lib.hid (HR.out.go hg)
            have HR51 := Lib.hid (HR5.out.go hg)
            have HYL1 := Lib.hid (HYL.out.trans (hdo.mv.later HD.out.ok))
            clear hd hdo hg e0 e1 e2 e3 e4 e5 e6 q0 q1 q2 q3 hcb HD HD2 HR HR5 HYL
            go_wp2_with fail
            go_roundw
            case rel => exact ⟨q + 1, l4, Y4, J4, by omega, by go_num, HD1, HR1, HR51, HYL1⟩
            case measure => first | omega | (simp [intOf]; done) | (simp [intOf]; omega)
          · obtain rfl : q = r := by omega
            have hnn2 : ¬ (q : Int) < (q : Int) := by omega
            obtain ⟨E, hE⟩ := HYL.out.log
            go_wp2_with fail
            refine (HD.out.deeds (by omega)).mono ?_
            rintro r6 w6 ⟨u6, rfl, hr6, hb6⟩
            obtain ⟨A6, cap6, rfl⟩ := own_shape hr6
            have HR6 := Lib.hid (HD.out.rest (tRow W.heap.size 55 11 (.slice A6 Y2.ds.length cap6) Y2.ds.length (flatD Y2.ds)))
            replace HR := Lib.hid (HR.out.go (YGo.more Y2 l3 (tRow W.heap.size 55 11 (.slice A6 Y2.ds.length cap6) Y2.ds.length (flatD Y2.ds)) J2))
            replace HR5 := Lib.hid (HR5.out.go (YGo.more Y2 l3 (tRow W.heap.size 55 11 (.slice A6 Y2.ds.length cap6) Y2.ds.length (flatD Y2.ds)) J2))
            replace HD := Lib.hid (HD.out.more (A := tRow W.heap.size 55 11 (.slice A6 Y2.ds.length cap6) Y2.ds.length (flatD Y2.ds)) hb6 (tRow_ok _ _ _ _ _ _) (row_base hr6 HD.out.h.size) (fun q hq => (hr6.lt q hq).1))
            clear hr6 hb6
            generalize l3.length = j2 at HR6
            generalize l3 ++ [tRow W.heap.size 55 11 (.slice A6 Y2.ds.length cap6) Y2.ds.length (flatD Y2.ds)] = l5 at HR HR5 HR6 HD
            have hlen : Y.ds.length ≤ Y2.ds.length := YLater.dlen HYL.out
            have hlen' : ¬ (Y2.ds.length : Int) < (Y.ds.length : Int) := by omega
            have HE := Lib.hid hE
            have hll : Y2.L.length = Y.L.length + E.length := by rw [hE, List.length_append]
            have hll' : ¬ (Y2.L.length : Int) < (Y.L.length : Int) := by omega
            clear hE hll
            go_wp2_with fail
            refine (HD.out.log (by omega)).mono ?_
            rintro r7 w7 ⟨u7, rfl, hr7, hb7⟩
            obtain ⟨A7, cap7, rfl⟩ := own_shape hr7
            replace HD := Lib.hid (HD.out.later hb7)
            clear hr7 hb7
            go_wp2_with fail
            refine (HD.out.log (by omega)).mono ?_
            rintro r8 w8 ⟨u8, rfl, hr8, hb8⟩
            obtain ⟨A8, cap8, rfl⟩ := own_shape hr8
            replace HD := Lib.hid (HD.out.later hb8)
            have hc8 : Y2.L.length ≤ cap8 := own_cap hr8
            have hc8' : (Y.L.length : Int) ≤ (cap8 : Int) := by omega
            rw [HE.out] at hr8
            have HE8 : Hid (EvAt w8 A8 Y.L) := Lib.hid (EvAt.row hr8)
            have HE5 : Hid (EvAt w8 A5 Y.L) := Lib.hid (EvAt.row0 (HD.out.has HR5.out))
            clear hr8 hb8
            go_wp2_with fail
            refine (same_any _ _ _ _ _ Y.L HE8.out HE5.out (by have := HNL.out; omega)).mono ?_
            rintro r9 w9 ⟨rfl, hb9⟩
            replace HD := Lib.hid (HD.out.later hb9)
            clear hb9 HE8 HE5 hlen' hll' hc8' HR5
            go_wp2_with fail
            go_loopw [106] (fun ix wr => ∃ e : Nat, e ≤ Y.ds.length ∧ ix = .int .i64 e ∧ Hid (YdL W wr l5 ⟨yb, ytb, p, c, T, s, so, d, T⟩ N Y2 J2 (i + q))) (fun ix _ => 2000 - (intOf ix).toNat)
            case atStart => exact ⟨0, Nat.zero_le _, rfl, HD⟩
            case round =>
              clear HD
              obtain ⟨e, he, rfl, HD⟩ := hrel
              have hnl := HNL.out
              rcases Nat.lt_or_ge e Y.ds.length with hel | hel
              · have hel' : (e : Int) < (Y.ds.length : Int) := by omega
                have hel2 : (e : Int) < (Y2.ds.length : Int) := by omega
                obtain ⟨dd, hdd⟩ : ∃ dd, Y.ds[e]? = some dd := ⟨_, List.getElem?_eq_getElem hel⟩
                obtain ⟨d2, hd2, y1, y2, y3, y4, y5, y6, y7⟩ := HYL.out.deed e dd hdd
                have hti := HD.out.ok.tills' hd2
                have r4 : wr.ownsRow W.heap.size 55 11 (.slice A4 Y.ds.length cap4) Y.ds.length (flatD Y.ds) := HD.out.has HR.out
                have r6 : wr.ownsRow W.heap.size 55 11 (.slice A6 Y2.ds.length cap6) Y2.ds.length (flatD Y2.ds) := HD.out.has HR6.out
                obtain ⟨g4, cap4', hv⟩ := own_at r4 (by omega)
                cases hv
                obtain ⟨g6, cap6', hv⟩ := own_at r6 (by omega)
                cases hv
                have HA4 : Hid (AtDd wr g4 (e * 11) dd) := Lib.hid (AtDd.row r4 hdd)
                have HA6 : Hid (AtDd wr g6 (e * 11) d2) := Lib.hid (AtDd.row r6 hd2)
                have hd6 : d2 = ⟨dd.who, dd.kd, dd.e, dd.x, dd.s, dd.fr, d2.till, d2.ok, d2.v, d2.lo, d2.hi⟩ := by rw [← y1, ← y2, ← y3, ← y4, ← y5, ← y6]
                have HD6 := Lib.hid hd6
                have HY7 := Lib.hid y7
                clear r4 r6 hdd hd2 y1 y2 y3 y4 y5 y6 y7 hd6
                have hbx := below_new (Below.refl wr.heap.size wr) (.cells dd.list.toArray 55)
                have HBX := Lib.hid (AtBd.of (IsObj.made wr dd.list 55).drew)
                have HD2 := Lib.hid (HD.out.later hbx)
                have HA6' := Lib.hid ((HA6.out.later hbx).later (Below.refl _ _).drew)
                clear hbx HD HA6
                obtain ⟨c0, c1, c2, c3, c4, c5, c6, c7, c8, c9, c10⟩ := HA4.out
                go_wp2_with fail
                clear c0 c1 c2 c3 c4 c5 c6 c7 c8 c9 c10
                by_cases ht : dd.till = -1
                · have ht' : ¬ 0 ≤ dd.till := by omega
                  clear ht hti HY7
                  rw [HD6.out] at HA6'
                  refine wp_region_seqS ((fun w' => AtBd w' wr.heap.size dd ∧ AtDd w' g6 (e * 11) ⟨dd.who, dd.kd, dd.e, dd.x, dd.s, dd.fr, d2.till, d2.ok, d2.v, d2.lo, d2.hi⟩)) ((0, true) :: (1, true) :: (2, true) :: (3, true) :: (4, true) :: (5, true) :: (6, true) :: (7, true) :: (8, true) :: (9, true) :: (10, true) :: (11, true) :: (12, true) :: (13, true) :: (14, true) :: (15, true) :: (16, true) :: (17, true) :: (18, true) :: (19, true) :: (20, true) :: (21, true) :: (22, true) :: (23, true) :: (24, true) :: (25, true) :: (26, true) :: (27, true) :: (28, true) :: (29, true) :: (30, true) :: (31, true) :: (32, true) :: (33, true) :: (34, true) :: (35, true) :: (36, true) :: (37, true) :: (38, true) :: (39, true) :: (40, true) :: []) (by kernel_rfl) (by kernel_rfl) (by kernel_rfl) (by decide) (fun _ _ _ _ _ h => h) (⟨HBX.out, HA6'.out⟩) ?_
                  repeat (first | (refine seq_take (v := ?_) rfl ?_ ?_ ?_; rotate_left 1; rfl; (focus (intro wS hSw; obtain ⟨⟨c0, c1, c2, c3, c4, c5, c6, c7, c8, c9, c10⟩, ⟨b0, b1, b2, b3, b4, b5, b6, b7, b8, b9, b10⟩⟩ := hSw; go_simp; first | done | with_reducible rfl)); (try simp only [Act.put, List.setIfInBounds_toArray, List.set_cons_zero, List.set_cons_succ])) | (refine seq_skip rfl ?_ ?_; rfl; (try simp only [Act.put, List.setIfInBounds_toArray, List.set_cons_zero, List.set_cons_succ])))
                  refine seq_done ?_
                  replace HD2 := Lib.hid (HD2.out.later (Below.refl _ _).drew)
                  go_wp2_with fail
                  go_roundw
                  case rel => exact ⟨e + 1, by omega, by go_num, HD2⟩
                  case measure => first | omega | (simp [intOf]; done) | (simp [intOf]; omega)
                · have hd22 := HY7.out ht
                  subst hd22
                  have ht' : 0 ≤ d2.till := by omega
                  clear ht hti HY7
                  refine wp_region_seqS ((fun w' => AtBd w' wr.heap.size d2 ∧ AtDd w' g6 (e * 11) d2)) ((0, true) :: (1, true) :: (2, true) :: (3, true) :: (4, true) :: (5, true) :: (6, true) :: (7, true) :: (8, true) :: (9, true) :: (10, true) :: (11, true) :: (12, true) :: (13, true) :: (14, true) :: (15, true) :: (16, true) :: (17, true) :: (18, true) :: (19, true) :: (20, true) :: (21, true) :: (22, true) :: (23, true) :: (24, true) :: (25, true) :: (26, true) :: (27, true) :: (28, true) :: (29, true) :: (30, true) :: (31, true) :: (32, true) :: (33, true) :: (34, true) :: (35, true) :: (36, true) :: (37, true) :: (38, true) :: (39, true) :: (40, true) :: []) (by kernel_rfl) (by kernel_rfl) (by kernel_rfl) (by decide) (fun _ _ _ _ _ h => h) (⟨HBX.out, HA6'.out⟩) ?_
                  repeat (first | (refine seq_take (v := ?_) rfl ?_ ?_ ?_; rotate_left 1; rfl; (focus (intro wS hSw; obtain ⟨⟨c0, c1, c2, c3, c4, c5, c6, c7, c8, c9, c10⟩, ⟨b0, b1, b2, b3, b4, b5, b6, b7, b8, b9, b10⟩⟩ := hSw; go_simp; first | done | with_reducible rfl)); (try simp only [Act.put, List.setIfInBounds_toArray, List.set_cons_zero, List.set_cons_succ])) | (refine seq_skip rfl ?_ ?_; rfl; (try simp only [Act.put, List.setIfInBounds_toArray, List.set_cons_zero, List.set_cons_succ])))
                  refine seq_done ?_
                  replace HD2 := Lib.hid (HD2.out.later (Below.refl _ _).drew)
                  go_wp2_with fail
                  go_roundw
                  case rel => exact ⟨e + 1, by omega, by go_num, HD2⟩
                  case measure => first | omega | (simp [intOf]; done) | (simp [intOf]; omega)
              · obtain rfl : e = Y.ds.length := by omega
                have hnn3 : ¬ (Y.ds.length : Int) < (Y.ds.length : Int) := by omega
                go_wp2
                go_ret
                exact ⟨rfl, below_step' HB.out HD.out.h.below HB.out.size⟩

end Go.Proofs.YthlmekkijknooaaGreat
