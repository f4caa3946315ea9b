/-
  CodeScripts answers true for all layouts and lists, and leaves all memory that was there as it was. No condition.
-/
import Derived.Test.YtpfjommkjkbonaaCodeHead
import Derived.Test.YtpfjommkjkbonaaCodeArgs
import Derived.Test.YtpfjommkjkbonaaCodeBytes
import Derived.Test.YtpfjommkjkbonaaCodeRight
namespace Go.Proofs.Ytpfjommkjkbonaa
open Go.RowKit
set_option linter.unusedVariables false

set_option maxRecDepth 100000 in
set_option maxHeartbeats 8000000 in
theorem walk_CodeScripts (a0_0 : Int) (a0_1 : Int) (a0_2 : Int) (a0_3 : Int) (a1 : Option Addr) (len1 cap1 : Nat) (w : World) (w0_0 : (Lit.int .i64 a0_0).wf = true) (w0_1 : (Lit.int .i64 a0_1).wf = true) (w0_2 : (Lit.int .i64 a0_2).wf = true) (w0_3 : (Lit.int .i64 a0_3).wf = true) (w1 : IsRows w [.inl .i64, .inl .i64, .inl .i64, .inl .i64, .inr true, .inr true, .inl .u64, .inl .i64] a1 len1 cap1) :
    Calls Try.prog 3 #[.agg #[.int .i64 a0_0, .int .i64 a0_1, .int .i64 a0_2, .int .i64 a0_3], .slice a1 len1 cap1] w fun e w' => e = .returned (.bool true) ∧ Below w.heap.size w w' := by
  clear w0_0 w0_1 w0_2 w0_3
  obtain ⟨V, rfl, hV⟩ := rows_lms w1
  have HCB := Lib.hid (IsObj.made w [.int .i64 a0_0, .int .i64 a0_1, .int .i64 a0_2, .int .i64 a0_3] 24)
  have HB0 := Lib.hid (below_new (Below.refl w.heap.size w) (.cells #[.int .i64 a0_0, .int .i64 a0_1, .int .i64 a0_2, .int .i64 a0_3] 24))
  have HV := Lib.hid (hV.later HB0.out)
  clear w1 hV
  rcases Nat.lt_or_ge 60 V.length with hbig | hs
  · have hbig' : (60 : Int) < (V.length : Int) := by omega
    go_enter Try.func3, Try.ntmps3
    go_wp2_with fail
    refine (head18_any _).mono ?_
    rintro e w1 ⟨rfl, hb1⟩
    have HB1 := Lib.hid (below_step HB0.out hb1)
    go_wp2_with fail
    go_ret
    exact ⟨rfl, HB1.out⟩
  have hs' : ¬ (60 : Int) < (V.length : Int) := by omega
  obtain ⟨x0, hx0⟩ : ∃ x, IntKind.u8.wrap a0_0 = x := ⟨_, rfl⟩
  obtain ⟨x1, hx1⟩ : ∃ x, IntKind.u8.wrap a0_1 = x := ⟨_, rfl⟩
  obtain ⟨x2, hx2⟩ : ∃ x, IntKind.u8.wrap a0_2 = x := ⟨_, rfl⟩
  obtain ⟨x3, hx3⟩ : ∃ x, IntKind.u8.wrap a0_3 = x := ⟨_, rfl⟩
  have HXS := Lib.hid (And.intro hx0 (And.intro hx1 (And.intro hx2 hx3)))
  go_enter Try.func3, Try.ntmps3
  go_wp2_with fail
  refine (head18_any _).mono ?_
  rintro e w1 ⟨rfl, hb1⟩
  have HB1 := Lib.hid (below_step HB0.out hb1)
  have HC1 := Lib.hid (HCB.out.later hb1)
  have HV1 := Lib.hid (HV.out.later hb1)
  have q0 := HC1.out.at' 0 _ rfl
  have q1 := HC1.out.at' 1 _ rfl
  have q2 := HC1.out.at' 2 _ rfl
  have q3 := HC1.out.at' 3 _ rfl
  have hlt1 := HC1.out.lt
  clear hb1 HB0 HCB HV
  go_wp2_with fail
  refine (cright_any a0_0 a0_1 a0_2 a0_3 _).mono ?_
  rintro r w2 ⟨rfl, hb2⟩
  have HH1 := (Hold.nil (Below.refl w1.heap.size w1)).more (A := tObj w1.heap.size w1.heap.size [i64 a0_0, i64 a0_1, i64 a0_2, i64 a0_3, .slice none 0 0]) (below_new (Below.refl _ _) (.cells #[.int .i64 a0_0, .int .i64 a0_1, .int .i64 a0_2, .int .i64 a0_3, .slice none 0 0] 29)) (tObj_ok _ _ _) ⟨IsObj.made w1 [i64 a0_0, i64 a0_1, i64 a0_2, i64 a0_3, .slice none 0 0] 29, Nat.le_refl _⟩ (fun q hq => by cases hq; exact Nat.le_refl _)
  have HH2 := HH1.more (A := tRow w1.heap.size 40 7 (.slice none 0 0) 0 []) (Below.refl _ _) (tRow_ok _ _ _ _ _ _) (World.ownsRow_nil _ _ _ _) (fun q hq => by cases hq)
  have hw := row8_made (w1.alloc (.cells #[.int .i64 a0_0, .int .i64 a0_1, .int .i64 a0_2, .int .i64 a0_3, .slice none 0 0] 29)) w1.heap.size [x0, x1, x2, x3] (by simp) (by unfold maxLen; simp)
  have HH3 := HH2.more (A := tRow w1.heap.size 5 1 (.slice (some ⟨(w1.alloc (.cells #[.int .i64 a0_0, .int .i64 a0_1, .int .i64 a0_2, .int .i64 a0_3, .slice none 0 0] 29)).heap.size, 0, none⟩) 4 4) 4 ([x0, x1, x2, x3].map u8)) (below_new (Below.refl _ _) (.cells ([x0, x1, x2, x3].map u8).toArray 5)) (tRow_ok _ _ _ _ _ _) hw (fun q hq => by cases hq; exact Nat.le_refl _)
  simp only [World.size_alloc] at HH3
  have HH := Lib.hid (HH3.later hb2)
  clear HH1 HH2 HH3 hw hb2 q0 q1 q2 q3
  go_wp2_with fail
  go_loopw [6, 7, 41] (fun bv gv iv wr => ∃ (i : Nat) (A1 : Option Addr) (cp1 : Nat) (A2 : Option Addr) (cp2 wn : Nat) (wl : List Int) (good : Bool), i ≤ V.length ∧ wn ≤ 4 + 11 * i ∧ bv = .slice A2 wn cp2 ∧ gv = .bool good ∧ iv = .int .i64 i ∧ Hid (Hold w1 wr [tObj w1.heap.size w1.heap.size [i64 a0_0, i64 a0_1, i64 a0_2, i64 a0_3, .slice A1 i cp1], tRow w1.heap.size 40 7 (.slice A1 i cp1) i (flatM (mkL (V.take i))), tRow w1.heap.size 5 1 (.slice A2 wn cp2) wn (wl.map u8)]) ∧ Hid (good = true ↔ rightC a0_0 a0_1 a0_2 a0_3 = true ∧ ∀ m ∈ mkL (V.take i), m.Right) ∧ Hid (good = true → wl = [x0, x1, x2, x3] ++ encs (mkL (V.take i)))) (fun _ _ iv _ => V.length - (RowKit.intOf iv).toNat)
  case atStart => exact ⟨0, none, 0, _, _, 4, [x0, x1, x2, x3], _, Nat.zero_le _, by omega, rfl, rfl, rfl, HH, Lib.hid ⟨fun h => ⟨h, fun m hm => by cases hm⟩, fun h => h.1⟩, Lib.hid (fun _ => by rw [List.take_zero]; rfl)⟩
  case round =>
    clear HH
    obtain ⟨i, A1, cp1, A2, cp2, wn, wl, good, hi, hwn, rfl, rfl, rfl, HH, HG, HW⟩ := hrel
    rcases Nat.lt_or_ge i V.length with hil | hil
    · have hil' : (i : Int) < (V.length : Int) := by omega
      obtain ⟨v, hv⟩ : ∃ v, V[i]? = some v := ⟨_, List.getElem?_eq_getElem hil⟩
      obtain ⟨b, off, rfl, hat⟩ := HV1.out.at' i v hv
      have HTK := Lib.hid (mkL_take hv)
      have HMF := Lib.hid (LM.make_fit (HV1.out.fit v (List.mem_of_getElem? hv)))
      obtain ⟨e0, e1, e2, e3, e4, e5, e6, e7⟩ := hat.later (HH.out.below)
      have hcap := HV1.out.cap
      clear hat hv
      have HHa := Lib.hid (HH.out.later (below_new (Below.refl _ _) (v.obj 33)))
      go_wp2_with fail
      refine (make18_any v _).mono ?_
      rintro r w3 ⟨rfl, hb3⟩
      have HHb := Lib.hid (HHa.out.later hb3)
      have HHc := Lib.hid (HHb.out.more (A := tObj w1.heap.size w3.heap.size v.make.list) (below_new (Below.refl _ _) (v.make.obj 40)) (tObj_ok _ _ _) ⟨IsObj.made w3 v.make.list 40, HHb.out.size⟩ (fun q hq => by cases hq; exact Nat.le_refl _))
      clear hb3 HHa HH e0 e1 e2 e3 e4 e5 e6 e7
      generalize v.make = m at HTK HMF HHc ⊢
      have HW3 := Lib.hid (show (w3.alloc (m.obj 40)).heap.size = w3.heap.size + 1 by simp)
      have hsb := (HHc.out.has 0 _ rfl : IsObj (w3.alloc (m.obj 40)) w1.heap.size [i64 a0_0, i64 a0_1, i64 a0_2, i64 a0_3, .slice A1 i cp1] ∧ _).1
      have hmb := (HHc.out.has 3 _ rfl : IsObj (w3.alloc (m.obj 40)) w3.heap.size m.list ∧ _).1
      have s4 := hsb.at' 4 _ rfl
      have c0 := hmb.at' 0 _ rfl
      have c1 := hmb.at' 1 _ rfl
      have c2 := hmb.at' 2 _ rfl
      have c3 := hmb.at' 3 _ rfl
      have c4 := hmb.at' 4 _ rfl
      have c5 := hmb.at' 5 _ rfl
      have c6 := hmb.at' 6 _ rfl
      clear hsb hmb
      go_upto_if 14 with (at_builtin; go_loud (refine list_append_grew rfl _ _ 27 rfl w1.heap.size 40 _ 7 56 elem_cm (.slice A1 i cp1) i (flatM (mkL (V.take i))) rfl ((HHc.out.later (below_new (Below.refl _ _) (m.obj 40))).has 1 _ rfl) (some ⟨_, 0, none⟩) 1 1 m.list rfl (src7_at _ _ m (by simp)) (by unfold maxLen; omega) (by omega) (HHc.out.later (below_new (Below.refl _ _) (m.obj 40))).size ?_); intro v' w8 hG; go_loud (obtain ⟨A3, cp3, rfl⟩ := own_shape hG.own; have HH8 := Lib.hid ((HHc.out.later (below_new (Below.refl _ _) (m.obj 40))).append 1 rfl rfl hG); have hs8 := (HH8.out.has 0 _ rfl : IsObj w8 w1.heap.size [i64 a0_0, i64 a0_1, i64 a0_2, i64 a0_3, .slice A1 i cp1] ∧ _).1; have z4 := hs8.at' 4 _ rfl; have y4 := hs8.fz 4; clear hs8 hG s4 c0 c1 c2 c3 c4 c5 c6 HHc))
      have HH9 : Hid (Hold w1 (w8.setCell ⟨w1.heap.size, 4, none⟩ (.slice A3 (i + 1) cp3)).drew [tObj w1.heap.size w1.heap.size [i64 a0_0, i64 a0_1, i64 a0_2, i64 a0_3, .slice A3 (i + 1) cp3], tRow w1.heap.size 40 7 (.slice A3 (i + 1) cp3) (i + 1) (flatM (mkL (V.take (i + 1)))), tRow w1.heap.size 5 1 (.slice A2 wn cp2) wn (wl.map u8), tObj w1.heap.size w3.heap.size m.list]) := Lib.hid (by
        have h := (HH8.out.cdSet 0 rfl 4 (.slice A3 (i + 1) cp3)).drew
        rw [HTK.out, flatM_append, show flatM [m] = m.list by rw [flatM, flatM, List.append_nil]]
        exact h)
      clear HH8 z4 y4
      generalize (w8.setCell ⟨w1.heap.size, 4, none⟩ (.slice A3 (i + 1) cp3)) = w9 at HH9 ⊢
      generalize hmbb : w3.heap.size = mb at HH9 ⊢
      refine wp_region_seqS ((fun wx => AtM0 wx mb m)) ((0, true) :: (2, true) :: (1, false) :: (3, false) :: (4, true) :: []) (by kernel_rfl) (by kernel_rfl) (by kernel_rfl) (by decide) (fun _ _ _ _ _ h => h) ((AtM0.of (HH9.out.has 3 _ rfl).1)) ?_
      repeat (first | (refine seq_take (v := ?_) rfl ?_ ?_ ?_; rotate_left 1; rfl; (focus (intro wS hSw; obtain ⟨c0, c1, c2, c3, c4, c5, c6⟩ := hSw; go_simp; first | done | with_reducible rfl)); (try simp only [Act.put, List.setIfInBounds_toArray, List.set_cons_zero, List.set_cons_succ])) | (refine seq_skip rfl ?_ ?_; rfl; (try simp only [Act.put, List.setIfInBounds_toArray, List.set_cons_zero, List.set_cons_succ])))
      refine seq_run rfl (fun K hK => ?_)
      go_simp
      go_at_call 11
      refine (mright_any m _).mono ?_
      rintro r w10 ⟨rfl, hb10⟩
      (try go_wp2_with fail)
      have HH10 := Lib.hid (HH9.out.later hb10)
      clear hb10 HH9
      refine hK.out _ _ (AtM0.of (HH10.out.has 3 _ rfl).1) (fun _ => ?_)
      (try simp only [Act.put, List.setIfInBounds_toArray, List.set_cons_zero, List.set_cons_succ])
      clear hK K
      repeat (first | (refine seq_take (v := ?_) rfl ?_ ?_ ?_; rotate_left 1; rfl; (focus (intro wS hSw; obtain ⟨c0, c1, c2, c3, c4, c5, c6⟩ := hSw; go_simp; first | done | with_reducible rfl)); (try simp only [Act.put, List.setIfInBounds_toArray, List.set_cons_zero, List.set_cons_succ])) | (refine seq_skip rfl ?_ ?_; rfl; (try simp only [Act.put, List.setIfInBounds_toArray, List.set_cons_zero, List.set_cons_succ])))
      refine seq_run rfl (fun K hK => ?_)
      go_simp
      go_at_call 12
      refine (right18_any m _).mono ?_
      rintro r w11 ⟨rfl, hb11⟩
      (try go_wp2_with fail)
      have HH11 := Lib.hid (HH10.out.later hb11)
      clear hb11 HH10
      refine hK.out _ _ (AtM0.of (HH11.out.has 3 _ rfl).1) (fun _ => ?_)
      (try simp only [Act.put, List.setIfInBounds_toArray, List.set_cons_zero, List.set_cons_succ])
      clear hK K
      repeat (first | (refine seq_take (v := ?_) rfl ?_ ?_ ?_; rotate_left 1; rfl; (focus (intro wS hSw; obtain ⟨c0, c1, c2, c3, c4, c5, c6⟩ := hSw; go_simp; first | done | with_reducible rfl)); (try simp only [Act.put, List.setIfInBounds_toArray, List.set_cons_zero, List.set_cons_succ])) | (refine seq_skip rfl ?_ ?_; rfl; (try simp only [Act.put, List.setIfInBounds_toArray, List.set_cons_zero, List.set_cons_succ])))
      refine seq_done ?_
      obtain ⟨c0, c1, c2, c3, c4, c5, c6⟩ := AtM0.of (HH11.out.has 3 _ rfl).1
      cases good with
      | false =>
        go_wp2_with fail
        refine (bytes18_any m _ HMF.out).mono ?_
        rintro r w13 ⟨vb, lb, rfl, hb13, hob, hlb, hme⟩
        have HH13 := Lib.hid (HH11.out.later hb13)
        obtain ⟨Ab, cpb, rfl⟩ := own_shape hob
        have hcb : lb.length ≤ cpb := by
          rcases hob.2 with ⟨hv, h0⟩ | ⟨g, cap', cur, hv, _, _, hc, _⟩
          · omega
          · cases hv
            exact hc
        have HSrc : Hid (Src w13 1 Ab lb.length (lb.map u8)) := Lib.hid ((IsAt.own hob).src (by rw [List.length_map, Nat.mul_one]) (by decide) (one_u8 lb))
        have HME := Lib.hid hme
        clear hb13 hob hme HH11
        go_wp2_with (at_builtin; go_loud (refine list_append_grew rfl _ _ 30 rfl w1.heap.size 5 _ 1 1 elem_u8 (.slice A2 wn cp2) wn (wl.map u8) rfl (HH13.out.has 2 _ rfl) Ab lb.length cpb (lb.map u8) rfl HSrc.out (by unfold maxLen; omega) (by omega) HH13.out.size ?_); intro v' w14 hG; have HG9 := Lib.hid hG; clear hG)
        obtain ⟨A4, cp4, rfl⟩ := own_shape HG9.out.own
        have HH14 : Hid (Hold w1 w14 [tObj w1.heap.size w1.heap.size [i64 a0_0, i64 a0_1, i64 a0_2, i64 a0_3, .slice A3 (i + 1) cp3], tRow w1.heap.size 40 7 (.slice A3 (i + 1) cp3) (i + 1) (flatM (mkL (V.take (i + 1)))), tRow w1.heap.size 5 1 (.slice A4 (wn + lb.length) cp4) (wn + lb.length) ((wl ++ lb).map u8)]) := Lib.hid (by
          have h := HH13.out.append 2 rfl rfl HG9.out
          rw [List.map_append]
          exact Hold.less (m := [_]) h)
        clear HH13 HG9 HSrc
        go_roundw
        case rel =>
          exact ⟨i + 1, A3, cp3, A4, cp4, wn + lb.length, wl ++ lb, false, by omega, by omega, rfl, rfl, by go_num, HH14, Lib.hid (by
            rw [HTK.out]
            exact ⟨fun h => (by cases h), fun h => absurd (HG.out.2 ⟨h.1, fun x hx => h.2 x (List.mem_append_left _ hx)⟩) (by decide)⟩), Lib.hid (fun h => by
            rw [HTK.out, encs_snoc, ← List.append_assoc]
            cases h)⟩
        case measure => first | omega | (simp [RowKit.intOf]; done) | (simp [RowKit.intOf]; omega)
      | true =>
        go_wp2_with fail
        refine (right18_any m _).mono ?_
        rintro r w12 ⟨rfl, hb12⟩
        have HH12 := Lib.hid (HH11.out.later hb12)
        clear hb12 c0 c1 c2 c3 c4 c5 c6 HH11
        obtain ⟨c0, c1, c2, c3, c4, c5, c6⟩ := AtM0.of (HH12.out.has 3 _ rfl).1
        go_wp2_with fail
        refine (bytes18_any m _ HMF.out).mono ?_
        rintro r w13 ⟨vb, lb, rfl, hb13, hob, hlb, hme⟩
        have HH13 := Lib.hid (HH12.out.later hb13)
        obtain ⟨Ab, cpb, rfl⟩ := own_shape hob
        have hcb : lb.length ≤ cpb := by
          rcases hob.2 with ⟨hv, h0⟩ | ⟨g, cap', cur, hv, _, _, hc, _⟩
          · omega
          · cases hv
            exact hc
        have HSrc : Hid (Src w13 1 Ab lb.length (lb.map u8)) := Lib.hid ((IsAt.own hob).src (by rw [List.length_map, Nat.mul_one]) (by decide) (one_u8 lb))
        have HME := Lib.hid hme
        clear hb13 hob hme HH12
        go_wp2_with (at_builtin; go_loud (refine list_append_grew rfl _ _ 30 rfl w1.heap.size 5 _ 1 1 elem_u8 (.slice A2 wn cp2) wn (wl.map u8) rfl (HH13.out.has 2 _ rfl) Ab lb.length cpb (lb.map u8) rfl HSrc.out (by unfold maxLen; omega) (by omega) HH13.out.size ?_); intro v' w14 hG; have HG9 := Lib.hid hG; clear hG)
        obtain ⟨A4, cp4, rfl⟩ := own_shape HG9.out.own
        have HH14 : Hid (Hold w1 w14 [tObj w1.heap.size w1.heap.size [i64 a0_0, i64 a0_1, i64 a0_2, i64 a0_3, .slice A3 (i + 1) cp3], tRow w1.heap.size 40 7 (.slice A3 (i + 1) cp3) (i + 1) (flatM (mkL (V.take (i + 1)))), tRow w1.heap.size 5 1 (.slice A4 (wn + lb.length) cp4) (wn + lb.length) ((wl ++ lb).map u8)]) := Lib.hid (by
          have h := HH13.out.append 2 rfl rfl HG9.out
          rw [List.map_append]
          exact Hold.less (m := [_]) h)
        clear HH13 HG9 HSrc
        go_roundw
        case rel =>
          exact ⟨i + 1, A3, cp3, A4, cp4, wn + lb.length, wl ++ lb, decide m.Right, by omega, by omega, rfl, rfl, by go_num, HH14, Lib.hid (by
            rw [HTK.out]
            exact ⟨fun h => ⟨(HG.out.1 trivial).1, fun x hx => by
              rcases List.mem_append.1 hx with hx | hx
              · exact (HG.out.1 trivial).2 x hx
              · rw [List.mem_singleton.1 hx]; exact of_decide_eq_true h⟩, fun h => decide_eq_true (h.2 m (by simp))⟩), Lib.hid (fun h => by
            rw [HTK.out, encs_snoc, ← List.append_assoc]
            rw [HW.out trivial, HME.out (of_decide_eq_true h)])⟩
        case measure => first | omega | (simp [RowKit.intOf]; done) | (simp [RowKit.intOf]; omega)
    · obtain rfl : i = V.length := by omega
      have hnn : ¬ (V.length : Int) < (V.length : Int) := by omega
      have HH2 : Hid (Hold w1 wr [tObj w1.heap.size w1.heap.size [i64 a0_0, i64 a0_1, i64 a0_2, i64 a0_3, .slice A1 V.length cp1], tRow w1.heap.size 40 7 (.slice A1 V.length cp1) V.length (flatM (mkL V)), tRow w1.heap.size 5 1 (.slice A2 wn cp2) wn (wl.map u8)]) := Lib.hid (by have h := HH.out; rw [List.take_length] at h; exact h)
      have HG2 : Hid (good = true ↔ rightC a0_0 a0_1 a0_2 a0_3 = true ∧ ∀ m ∈ mkL V, m.Right) := Lib.hid (by have h := HG.out; rw [List.take_length] at h; exact h)
      have HW2 : Hid (good = true → wl = [x0, x1, x2, x3] ++ encs (mkL V)) := Lib.hid (by have h := HW.out; rw [List.take_length] at h; exact h)
      have hE := encode_any a0_0 a0_1 a0_2 a0_3 A1 cp1 (mkL V) wr (IsAt.own (HH2.out.has 1 _ rfl)) (mkL_fit HV1.out.fit) (by rw [mkL_len]; omega)
      rw [mkL_len] at hE
      have HE := Lib.hid hE
      have hsb := (HH2.out.has 0 _ rfl : IsObj wr w1.heap.size [i64 a0_0, i64 a0_1, i64 a0_2, i64 a0_3, .slice A1 V.length cp1] ∧ _).1
      have s0 := hsb.at' 0 _ rfl
      have s1 := hsb.at' 1 _ rfl
      have s2 := hsb.at' 2 _ rfl
      have s3 := hsb.at' 3 _ rfl
      have s4 := hsb.at' 4 _ rfl
      clear hsb hE HH HG HW hi hil
      go_wp2_with fail
      refine HE.out.mono ?_
      rintro r w15 ⟨vE, eE, rfl, hb15, hEi⟩
      have HH15 := Lib.hid (HH2.out.later hb15)
      have HB15 := Lib.hid (below_step HB1.out HH15.out.below)
      have hVl : (mkL V).length ≤ 65536 := by rw [mkL_len]; omega
      clear hb15 s0 s1 s2 s3 s4 HH2 HE
      cases good with
      | false =>
        have hbad : vE = .slice none 0 0 ∧ eE = 1 := by
          cases hEi with
          | conf h => exact ⟨rfl, rfl⟩
          | many h hn => omega
          | arg h hn hm => exact ⟨rfl, rfl⟩
          | ok h hn hm v ho => exact absurd (HG2.out.2 ⟨h, hm⟩) (by decide)
        obtain ⟨rfl, rfl⟩ := hbad
        clear hEi
        go_wp2_with fail
        go_ret
        exact ⟨rfl, HB15.out⟩
      | true =>
        obtain ⟨hr, hm⟩ := HG2.out.1 rfl
        obtain ⟨rfl, ho⟩ := hEi.yes hr hVl hm
        have hrr := of_decide_eq_true hr
        have hxx := HXS.out
        have hx : [x0, x1, x2, x3] = [a0_0, a0_1, a0_2, a0_3] := by
          obtain ⟨e0, e1, e2, e3⟩ := hxx
          rw [← e0, ← e1, ← e2, ← e3, wrap8 (by omega) (by omega), wrap8 (by omega) (by omega), wrap8 (by omega) (by omega), wrap8 (by omega) (by omega)]
        obtain ⟨l, hl⟩ : ∃ l, [a0_0, a0_1, a0_2, a0_3] ++ encs (mkL V) = l := ⟨_, rfl⟩
        have hwl : wl = l := by rw [HW2.out rfl, hx, hl]
        subst hwl
        rw [hl] at ho
        obtain ⟨Ab, cpb, rfl⟩ := own_shape ho
        have hbyt : Byt wl := hl ▸ byt_script hr hm
        have hwn2 : wn = wl.length := by
          have h := (HH15.out.has 2 _ rfl : w15.ownsRow w1.heap.size 5 1 (.slice A2 wn cp2) wn (wl.map u8)).1
          rw [List.length_map] at h
          omega
        subst hwn2
        have hcb : wl.length ≤ cpb := by
          rcases ho.2 with ⟨hv, h0⟩ | ⟨g, cap', cur, hv, _, _, hc, _⟩
          · omega
          · cases hv
            exact hc
        have hgd : ∀ m ∈ mkL V, m.Good := fun m h => ⟨hm m h, mkL_fit HV1.out.fit m h⟩
        have HD := Lib.hid (decode_any Ab wl cpb w15 (IsAt.own ho) hbyt hcb (by omega))
        have HR1 := Lib.hid (show Row8 w15 Ab wl from ⟨IsAt.own ho, hbyt⟩)
        have HP := Lib.hid (And.intro hl (And.intro hr hgd))
        clear ho hbyt hcb hgd hm hr hrr hl hx hxx hEi
        go_wp2_with fail
        refine HD.out.mono ?_
        rintro r w16 ⟨vD, nD, eD, rfl, hb16, hDp⟩
        obtain ⟨rfl, rfl, A5, cp5, rfl, ho5⟩ := hDp.yes HP.out.1.symm HP.out.2.1 HP.out.2.2 hVl
        rw [mkL_len] at ho5 ⊢
        have hb17 := below_step hb16 (below_new (Below.refl w16.heap.size w16) (.cells #[.int .i64 a0_0, .int .i64 a0_1, .int .i64 a0_2, .int .i64 a0_3, .slice A5 V.length cp5] 29))
        have HH17 := Lib.hid (HH15.out.later hb17)
        have HM17 := Lib.hid ((IsAt.own ho5).later (below_new (Below.refl w16.heap.size w16) (.cells #[.int .i64 a0_0, .int .i64 a0_1, .int .i64 a0_2, .int .i64 a0_3, .slice A5 V.length cp5] 29)))
        have hR1 := HR1.out.later hb17
        have hS := same18_any Ab A2 wl wl cpb cp2 _ hR1 ⟨IsAt.own (HH17.out.has 2 _ rfl), hR1.byt⟩
        rw [decide_eq_true rfl] at hS
        have HS := Lib.hid hS
        have HO17 := Lib.hid (IsObj.made w16 [.int .i64 a0_0, .int .i64 a0_1, .int .i64 a0_2, .int .i64 a0_3, .slice A5 V.length cp5] 29)
        have HB17 := Lib.hid (below_step HB15.out hb17)
        clear hb16 hDp ho5 hR1 hS HD HR1 hb17 HH15 HB15
        go_wp2_with fail
        refine HS.out.mono ?_
        rintro r w18 ⟨rfl, hw18⟩
        subst hw18
        have hc := HC1.out.later HH17.out.below
        have q0 := hc.at' 0 _ rfl
        have q1 := hc.at' 1 _ rfl
        have q2 := hc.at' 2 _ rfl
        have q3 := hc.at' 3 _ rfl
        have hsb := (HH17.out.has 0 _ rfl : IsObj _ w1.heap.size [i64 a0_0, i64 a0_1, i64 a0_2, i64 a0_3, .slice A1 V.length cp1] ∧ _).1
        have s4 := hsb.at' 4 _ rfl
        have HSB := Lib.hid hsb
        have p0 := HO17.out.at' 0 _ rfl
        have p1 := HO17.out.at' 1 _ rfl
        have p2 := HO17.out.at' 2 _ rfl
        have p3 := HO17.out.at' 3 _ rfl
        have p4 := HO17.out.at' 4 _ rfl
        have HMM := Lib.hid (IsAt.own (HH17.out.has 1 _ rfl))
        clear hc hsb HS HH17 HC1
        generalize (w16.alloc (.cells #[.int .i64 a0_0, .int .i64 a0_1, .int .i64 a0_2, .int .i64 a0_3, .slice A5 V.length cp5] 29)) = w17 at *
        generalize w16.heap.size = tb at *
        go_wp2_with fail
        clear q0 q1 q2 q3 p0 p1 p2 p3 s4 p4
        go_loopw [124] (fun iv wx => ∃ i : Nat, i ≤ V.length ∧ iv = .int .i64 i ∧ Hid (Below w17.heap.size w17 wx)) (fun iv _ => V.length - (RowKit.intOf iv).toNat)
        case atStart => exact ⟨0, Nat.zero_le _, rfl, Lib.hid (Below.refl _ _)⟩
        case round =>
          obtain ⟨i, hi, rfl, HBx⟩ := hrel
          rcases Nat.lt_or_ge i V.length with hil | hil
          · have hil' : (i : Int) < (V.length : Int) := by omega
            obtain ⟨m, hm⟩ : ∃ m, (mkL V)[i]? = some m := ⟨_, List.getElem?_eq_getElem (by rw [mkL_len]; exact hil)⟩
            obtain ⟨b2, off2, rfl, h2, hc2⟩ := HM17.out.move hm
            obtain ⟨b3, off3, rfl, h3, hc3⟩ := HMM.out.move hm
            have HX : Hid (∀ wx, Below w17.heap.size w17 wx → wx.cell? ⟨tb, 4, none⟩ = some (.slice (some ⟨b2, off2, none⟩) V.length cp5) ∧ wx.cell? ⟨w1.heap.size, 4, none⟩ = some (.slice (some ⟨b3, off3, none⟩) V.length cp1) ∧ AtCM wx b2 (off2 + i * 7) m ∧ AtCM wx b3 (off3 + i * 7) m) := Lib.hid (fun wx hb =>
              ⟨(HO17.out.later hb).at' 4 _ rfl, (HSB.out.later hb).at' 4 _ rfl,
                ⟨(hb.cell (p := ⟨b2, off2 + i * 7, none⟩) h2).trans hc2.c0, (hb.cell (p := ⟨b2, off2 + i * 7 + 1, none⟩) h2).trans hc2.c1, (hb.cell (p := ⟨b2, off2 + i * 7 + 2, none⟩) h2).trans hc2.c2, (hb.cell (p := ⟨b2, off2 + i * 7 + 3, none⟩) h2).trans hc2.c3, (hb.cell (p := ⟨b2, off2 + i * 7 + 4, none⟩) h2).trans hc2.c4, (hb.cell (p := ⟨b2, off2 + i * 7 + 5, none⟩) h2).trans hc2.c5, (hb.cell (p := ⟨b2, off2 + i * 7 + 6, none⟩) h2).trans hc2.c6⟩,
                ⟨(hb.cell (p := ⟨b3, off3 + i * 7, none⟩) h3).trans hc3.c0, (hb.cell (p := ⟨b3, off3 + i * 7 + 1, none⟩) h3).trans hc3.c1, (hb.cell (p := ⟨b3, off3 + i * 7 + 2, none⟩) h3).trans hc3.c2, (hb.cell (p := ⟨b3, off3 + i * 7 + 3, none⟩) h3).trans hc3.c3, (hb.cell (p := ⟨b3, off3 + i * 7 + 4, none⟩) h3).trans hc3.c4, (hb.cell (p := ⟨b3, off3 + i * 7 + 5, none⟩) h3).trans hc3.c5, (hb.cell (p := ⟨b3, off3 + i * 7 + 6, none⟩) h3).trans hc3.c6⟩⟩)
            have HBd := Lib.hid HBx.out.drew
            clear hc2 hc3 h2 h3 hm
            go_wp2_with fail
            refine wp_region_seqS ((fun wx => wx.cell? ⟨tb, 4, none⟩ = some (.slice (some ⟨b2, off2, none⟩) V.length cp5) ∧ wx.cell? ⟨w1.heap.size, 4, none⟩ = some (.slice (some ⟨b3, off3, none⟩) V.length cp1) ∧ AtCM wx b2 (off2 + i * 7) m ∧ AtCM wx b3 (off3 + i * 7) m)) ((0, true) :: (1, true) :: (2, true) :: (3, true) :: (4, true) :: (5, true) :: (6, true) :: (7, true) :: (8, true) :: (9, true) :: (10, true) :: []) (by kernel_rfl) (by kernel_rfl) (by kernel_rfl) (by decide) (fun _ _ _ _ _ h => h) ((HX.out _ HBd.out)) ?_
            repeat (first | (refine seq_take (v := ?_) rfl ?_ ?_ ?_; rotate_left 1; rfl; (focus (intro wS hSw; obtain ⟨p4, s4, ⟨c0, c1, c2, c3, c4, c5, c6⟩, ⟨d0, d1, d2, d3, d4, d5, d6⟩⟩ := hSw; go_simp; first | done | with_reducible rfl)); (try simp only [Act.put, List.setIfInBounds_toArray, List.set_cons_zero, List.set_cons_succ])) | (refine seq_skip rfl ?_ ?_; rfl; (try simp only [Act.put, List.setIfInBounds_toArray, List.set_cons_zero, List.set_cons_succ])))
            refine seq_done ?_
            go_wp2_with fail
            go_roundw
            case rel => exact ⟨i + 1, by omega, by go_num, HBd⟩
            case measure => first | omega | (simp [RowKit.intOf]; done) | (simp [RowKit.intOf]; omega)
          · obtain rfl : i = V.length := by omega
            have hnn2 : ¬ (V.length : Int) < (V.length : Int) := by omega
            have HZ := Lib.hid (below_step HB17.out HBx.out)
            go_wp2_with fail
            go_ret
            exact ⟨rfl, HZ.out⟩
end Go.Proofs.Ytpfjommkjkbonaa
