/-
  YardBacks answers true for all lists and numbers, and leaves all memory that was there as it was. No condition.
-/
import Derived.Test.YthlmekkijknooaaGreatYardDeeds
import Derived.Test.YthlmekkijknooaaGreatMemBack2
namespace Go.Proofs.YthlmekkijknooaaGreat
open Go.RowKit
set_option linter.unusedVariables false

/-- What was noted plays. -/
def YPlays (Y : Yd) (M : Nat) : Prop := Plays Y.L (List.replicate M 0) Y.C ∧ ∀ e ∈ Y.L, e.num
section
variable {W w w' : World} {l l' : List Thing} {B : YB} {Y Y' : Yd} {J J' : Nat → Nat} {n N M : Nat}
theorem YPlays.next {pl : Nat → Pl} {t : Nat} (h : YPlays Y M) (ho : YOk pl t n Y) (hm : YMv pl Y Y') (hf : ∀ j, 0 ≤ Y.C.getD j 0 ∧ Y.C.getD j 0 ≤ 18446744073709551615) (hf' : ∀ j, 0 ≤ Y'.C.getD j 0 ∧ Y'.C.getD j 0 ≤ 18446744073709551615) : YPlays Y' M := by
  obtain ⟨k, E, hN, hE, _⟩ := hm.noted ho
  rcases hN with ⟨rfl, hC⟩ | ⟨e, rfl, hN⟩
  · rw [List.append_nil] at hE
    unfold YPlays
    rw [hE, hC]
    exact h
  · unfold YPlays
    rw [hE, hN.cells]
    have hc := hN.c0
    have hc1 := hN.c1
    refine ⟨plays_snoc h.1 ⟨hN.op0, hN.op1, hN.c0, hN.c1, hN.old, hN.ok, hN.new⟩, fun e' he' => ?_⟩
    rw [List.mem_append, List.mem_singleton] at he'
    rcases he' with he' | rfl
    · exact h.2 e' he'
    · have h1 := hf e'.cell.toNat
      have h2 := hf' e'.cell.toNat
      rw [hN.cells, List.getD_eq_getElem?_getD, List.getElem?_set_self (by omega)] at h2
      rw [← hN.old] at h1
      exact ⟨h1.1, h1.2, h2.1, h2.2⟩
end
theorem ccells_nat (T N : Nat) (s so d : Int) (w : World) (h : Lay T s N) : Calls Tryz.prog 13 #[cf T s so d] w fun r w' => r = .returned (i64 ((2 * N + 2 * T : Nat) : Int)) ∧ Below w.heap.size w w' := by
  rw [show ((2 * N + 2 * T : Nat) : Int) = 2 * (N : Int) + 2 * (T : Int) by omega]
  exact ccells_any T s so d N w h

set_option maxRecDepth 100000 in
set_option maxHeartbeats 8000000 in
theorem walk_YardBacks (a0 : Int) (a1 : Int) (a2 : Int) (a3 : Option Addr) (len3 cap3 : Nat) (w : World) (w0 : (Lit.int .i64 a0).wf = true) (w1 : (Lit.int .i64 a1).wf = true) (w2 : (Lit.int .i64 a2).wf = true) (w3 : IsRows w [.inl .i64, .inl .i64, .inr true, .inr true, .inl .u64, .inl .i64, .inl .i64] a3 len3 cap3) :
    Calls Tryz.prog 6 #[.int .i64 a0, .int .i64 a1, .int .i64 a2, .slice a3 len3 cap3] w fun e w' => e = .returned (.bool true) ∧ Below w.heap.size w w' := by
  clear w0 w1 w2
  rcases Nat.lt_or_ge 300 len3 with hbig | hs4
  · have hbig' : (300 : Int) < (len3 : Int) := by omega
    clear w3
    go_enter Tryz.func6, Tryz.ntmps6
    go_wp2_with fail
    refine (head13_any _).mono ?_
    rintro e w1 ⟨rfl, hb1⟩
    go_wp2_with fail
    go_ret
    exact ⟨rfl, hb1⟩
  have p4 : decide ((300 : Int) < (len3 : Int)) = false := decide_eq_false (by omega)
  obtain ⟨tb, off, X, hX⟩ := rows_mvs w3
  have HX0 : Hid (IsMvs w a3 len3 cap3 tb off X) := hX
  clear w3 hX
  go_enter Tryz.func6, Tryz.ntmps6
  go_wp2_with fail
  refine (head13_any _).mono ?_
  rintro e w1 ⟨rfl, hb1⟩
  go_wp2_with fail
  refine (conf4_any _ _ _ _ _).mono ?_
  rintro e w2 ⟨t, s, so, d, rfl, t1, t4, s1, s4, o0, o4, d0, d3, hb2⟩
  have hB2 := Lib.hid (below_step hb1 hb2)
  clear hb1 hb2
  obtain ⟨N, hNe, hlay, hN1, hN2⟩ := lay44 t1 t4 s1 s4
  clear hNe
  obtain ⟨T, rfl⟩ : ∃ T : Nat, t = T := ⟨t.toNat, by omega⟩
  go_wp2_with fail
  have hA := AtC.made w2 T s so d
  have hB3 := below_new (Below.refl w2.heap.size w2) (.cells #[.int .i64 T, .int .i64 s, .int .i64 so, .int .i64 d] 26)
  have hs3 : w2.heap.size < (w2.alloc (.cells #[.int .i64 T, .int .i64 s, .int .i64 so, .int .i64 d] 26)).heap.size := by simp
  have HA := Lib.hid hA
  have HB := Lib.hid (below_step hB2.out hB3)
  have Hs := Lib.hid hs3
  clear hA hB3 hs3 hB2
  generalize w2.alloc (.cells #[.int .i64 T, .int .i64 s, .int .i64 so, .int .i64 d] 26) = W at HA HB Hs ⊢
  generalize w2.heap.size = cb at HA Hs ⊢
  clear w2 w1
  have HX : Hid (IsMvs W a3 len3 cap3 tb off X) := Lib.hid (HX0.out.later HB.out (fun i hi => (HX0.out i hi).2.2.1))
  clear HX0
  refine (ynew_yes (W := W) T s so d N (Below.refl _ _) hlay o0 o4 d0 (by omega)).mono ?_
  rintro r w3 ⟨yb, ytb, p, c, l0, rfl, hl4, hY, hb, hyb⟩
  have HD0 := Lib.hid (YdL.start hlay o0 o4 d0 (by omega) hY)
  have HL4 := Lib.hid hl4
  clear hY hb hyb hl4
  go_wp2_with fail
  have HP0 : Hid (YPlays ⟨List.replicate (2 * N + 2 * T) 0, [], 0, 0, List.replicate T none, []⟩ (2 * N + 2 * T)) := Lib.hid ⟨rfl, fun e he => by cases he⟩
  go_loopw [37] (fun ix wr => ∃ (i : Nat) (l : List Thing) (Y : Yd) (J : Nat → Nat), i ≤ len3 ∧ ix = .int .i64 i ∧ Hid (YdL W wr l ⟨yb, ytb, p, c, T, s, so, d, T⟩ N Y J i) ∧ Hid (YPlays Y (2 * N + 2 * T))) (fun ix _ => len3 - (intOf ix).toNat)
  case atStart => exact ⟨0, _, _, _, Nat.zero_le _, rfl, HD0, HP0⟩
  case round =>
    clear HD0 HP0
    obtain ⟨i, l, Y, J, hi3, rfl, HD, HP⟩ := hrel
    rcases Nat.lt_or_ge i len3 with hi | hi
    · have hi' : (i : Int) < (len3 : Int) := by omega
      obtain ⟨rfl, hcap, htb, hx, x0, x1⟩ := HX.out i hi
      have hW1 := HD.out.h.below
      have hx' := hx.later hW1 htb
      obtain ⟨e0, e1, e2, e3, e4, e5, e6⟩ := hx'
      clear hW1 hx
      obtain ⟨q0, q1, q2, q3⟩ := HA.out.later HD.out.h.below Hs.out
      have hcb : cb < wr.heap.size := Nat.lt_of_lt_of_le Hs.out HD.out.h.size
      have hbx := below_new (Below.refl wr.heap.size wr) (.cells (X i).list.toArray 41)
      have HD2 := Lib.hid (HD.out.later hbx)
      clear hbx
      go_wp2_with fail
      refine (HD2.out.do (by omega) (X i) x0 x1).mono ?_
      rintro r w4 ⟨rfl, l1, J1, Y1, hdo, hd, _⟩
      have HD1 := Lib.hid hd
      have HP1 := Lib.hid (HP.out.next HD.out.ok hdo.mv HD.out.h.fit hd.h.fit)
      clear hd hdo e0 e1 e2 e3 e4 e5 e6 q0 q1 q2 q3 hcb HD HD2 HP
      go_wp2_with fail
      go_roundw
      case rel => exact ⟨i + 1, l1, Y1, J1, by omega, by go_num, HD1, HP1⟩
      case measure => first | omega | (simp [intOf]; done) | (simp [intOf]; omega)
    · obtain rfl : i = len3 := by omega
      have hnn : ¬ (i : Int) < (i : Int) := by omega
      clear HX hi hi3
      obtain ⟨q0, q1, q2, q3⟩ := HA.out.later HD.out.h.below Hs.out
      go_wp2_with fail
      refine (ccells_nat T N s so d _ hlay).mono ?_
      rintro r w4 ⟨rfl, hb4⟩
      replace HD := Lib.hid (HD.out.later hb4)
      clear hb4 q0 q1 q2 q3
      go_wp2_with fail
      refine (HD.out.log (by omega)).mono ?_
      rintro r w5 ⟨u5, rfl, hr5, hb5⟩
      obtain ⟨A5, cap5, rfl⟩ := own_shape hr5
      replace HD := Lib.hid (HD.out.later hb5)
      have HNL := Lib.hid (show Y.L.length ≤ 1000 by have := HD.out.ok.nL; have := HD.out.ok.most; omega)
      have HE := Lib.hid (AtE.row hr5)
      clear hr5 hb5
      go_wp2_with fail
      refine (back_any _ (2 * N + 2 * T) _ _ _ Y.L (by omega) HE.out HP.out.2 rfl (by have := HNL.out; omega)).mono ?_
      rintro r w6 ⟨p', c', v', C', L', ok, rfl, hBk⟩
      have hok : ok = true := by
        cases ok with
        | true => rfl
        | false => exact absurd ⟨_, HP.out.1⟩ (hBk.no rfl)
      subst hok
      have hCC : C' = Y.C := plays_one (hBk.yes rfl).1 HP.out.1
      subst hCC
      replace HD := Lib.hid (HD.out.later hBk.below)
      have HM := Lib.hid hBk.mem
      have HCL : Hid ((Y.C.length : Int) = 2 * N + 2 * (T : Int)) := Lib.hid HD.out.len
      clear hBk HE HP
      have hn1 := hlay.n1
      go_wp2_with fail
      refine HD.out.words.mono ?_
      rintro r w7 h7
      obtain ⟨g, cap7, rfl, hg7, hb7⟩ := h7.at (by omega)
      replace HD := Lib.hid (HD.out.later hb7)
      replace HM := Lib.hid (HM.out.later hb7)
      have HG := Lib.hid hg7
      clear h7 hg7 hb7
      go_wp2_with fail
      refine HD.out.values.mono ?_
      rintro r w8 h8
      obtain ⟨gv, cap8, rfl, hg8, hb8⟩ := h8.at (by omega)
      have HPL : Hid (AtPl w8 w5.heap.size p' c' v' Y.C L' g gv cb N T s so d) := Lib.hid ⟨HM.out.later hb8, fun i hi => (hb8.cell (p := ⟨g, i, none⟩) (World.block_lt_of_cell? _ _ (HG.out i hi))).trans ((HG.out i hi).trans (by rw [Nat.zero_add])), hg8, HA.out.later (HD.out.later hb8).h.below Hs.out⟩
      have HBW := Lib.hid (below_step' HB.out (HD.out.later hb8).h.below HB.out.size)
      clear h8 hg8 hb8 HG HM HD
      go_wp2_with fail
      have hN0 := hlay.n1
      have HCL2 : Hid (2 * N ≤ Y.C.length) := Lib.hid (by have := HCL.out; omega)
      go_loopw [63] (fun ix wr => ∃ i : Nat, i ≤ N ∧ ix = .int .i64 i ∧ Hid (AtPl wr w5.heap.size p' c' v' Y.C L' g gv cb N T s so d) ∧ Hid (Below w.heap.size w wr)) (fun ix _ => N - (intOf ix).toNat)
      case atStart => exact ⟨0, Nat.zero_le _, rfl, HPL, HBW⟩
      case round =>
        clear HPL HBW
        obtain ⟨i, hi, rfl, HP, HBW⟩ := hrel
        rcases Nat.lt_or_ge i N with hil | hil
        · have hil' : (i : Int) < (N : Int) := by omega
          have hx0 : Hid (Y.C[i]? = some (Y.C.getD i 0)) := Lib.hid (by have := HCL2.out; rw [List.getD_eq_getElem?_getD, List.getElem?_eq_getElem (by omega)]; rfl)
          have hx1 : Hid (Y.C[N + i]? = some (Y.C.getD (N + i) 0)) := Lib.hid (by have := HCL2.out; rw [List.getD_eq_getElem?_getD, List.getElem?_eq_getElem (by omega)]; rfl)
          generalize Y.C.getD i 0 = xa at hx0
          generalize Y.C.getD (N + i) 0 = xb at hx1
          have HWD : Hid (∀ w', AtPl w' w5.heap.size p' c' v' Y.C L' g gv cb N T s so d → w'.cell? ⟨g, i, none⟩ = some (.int .u64 xa) ∧ w'.cell? ⟨gv, i, none⟩ = some (.int .u64 xb) ∧ AtC w' cb T s so d) := Lib.hid (fun w' h => ⟨by rw [h.words i hil, List.getD_eq_getElem?_getD, hx0.out]; rfl, by rw [h.values i hil, List.getD_eq_getElem?_getD, hx1.out]; rfl, h.conf⟩)
          replace HP := Lib.hid (HP.out.later (Below.refl _ _).drew)
          replace HBW := Lib.hid (below_step HBW.out (Below.refl _ _).drew)
          go_wp2_with fail
          refine wp_region_seqS ((fun w' => w'.cell? ⟨g, i, none⟩ = some (.int .u64 xa) ∧ w'.cell? ⟨gv, i, none⟩ = some (.int .u64 xb) ∧ AtC w' cb T s so d)) ((0, true) :: (1, true) :: (2, true) :: (3, true) :: (4, true) :: (5, true) :: (6, true) :: (7, false) :: (8, false) :: (9, true) :: (10, true) :: (11, true) :: (12, true) :: (13, true) :: (14, true) :: (15, true) :: (16, true) :: (17, true) :: (18, false) :: (19, false) :: (20, true) :: (21, true) :: []) (by kernel_rfl) (by kernel_rfl) (by kernel_rfl) (by decide) (fun _ _ _ _ _ h => h) ((HWD.out _ HP.out)) ?_
          repeat (first | (refine seq_take (v := ?_) rfl ?_ ?_ ?_; rotate_left 1; rfl; (focus (intro wS hSw; obtain ⟨z0, z1, ⟨q0, q1, q2, q3⟩⟩ := hSw; go_simp; first | done | with_reducible rfl)); (try simp only [Act.put, List.setIfInBounds_toArray, List.set_cons_zero, List.set_cons_succ])) | (refine seq_skip rfl ?_ ?_; rfl; (try simp only [Act.put, List.setIfInBounds_toArray, List.set_cons_zero, List.set_cons_succ])))
          refine seq_run rfl (fun K hK => ?_)
          go_simp
          go_at_call 31
          refine (cword_any T s so d i _).mono ?_
          rintro r wa ⟨rfl, hb⟩
          (try go_wp2_with fail)
          replace HP := Lib.hid (HP.out.later hb)
          replace HBW := Lib.hid (below_step HBW.out hb)
          clear hb
          refine hK.out _ _ ((HWD.out _ HP.out)) (fun _ => ?_)
          (try simp only [Act.put, List.setIfInBounds_toArray, List.set_cons_zero, List.set_cons_succ])
          clear hK K
          refine seq_run rfl (fun K hK => ?_)
          go_simp
          go_at_call 30
          refine (peek_in _ _ _ _ _ _ _ i xa HP.out.mem hx0.out).mono ?_
          rintro r wb ⟨rfl, rfl⟩
          (try go_wp2_with fail)
          refine hK.out _ _ ((HWD.out _ HP.out)) (fun _ => ?_)
          (try simp only [Act.put, List.setIfInBounds_toArray, List.set_cons_zero, List.set_cons_succ])
          clear hK K
          repeat (first | (refine seq_take (v := ?_) rfl ?_ ?_ ?_; rotate_left 1; rfl; (focus (intro wS hSw; obtain ⟨z0, z1, ⟨q0, q1, q2, q3⟩⟩ := hSw; go_simp; first | done | with_reducible rfl)); (try simp only [Act.put, List.setIfInBounds_toArray, List.set_cons_zero, List.set_cons_succ])) | (refine seq_skip rfl ?_ ?_; rfl; (try simp only [Act.put, List.setIfInBounds_toArray, List.set_cons_zero, List.set_cons_succ])))
          refine seq_run rfl (fun K hK => ?_)
          go_simp
          go_at_call 32
          refine (cvalue_any T s so d N i _ hlay (by omega) (by omega)).mono ?_
          rintro r wc ⟨rfl, hb⟩
          (try go_wp2_with fail)
          replace HP := Lib.hid (HP.out.later hb)
          replace HBW := Lib.hid (below_step HBW.out hb)
          clear hb
          refine hK.out _ _ ((HWD.out _ HP.out)) (fun _ => ?_)
          (try simp only [Act.put, List.setIfInBounds_toArray, List.set_cons_zero, List.set_cons_succ])
          clear hK K
          refine seq_run rfl (fun K hK => ?_)
          go_simp
          go_at_call 30
          refine (peek_in _ _ _ _ _ _ _ (N + i) xb HP.out.mem hx1.out).mono ?_
          rintro r wd ⟨rfl, rfl⟩
          (try go_wp2_with fail)
          refine hK.out _ _ ((HWD.out _ HP.out)) (fun _ => ?_)
          (try simp only [Act.put, List.setIfInBounds_toArray, List.set_cons_zero, List.set_cons_succ])
          clear hK K
          repeat (first | (refine seq_take (v := ?_) rfl ?_ ?_ ?_; rotate_left 1; rfl; (focus (intro wS hSw; obtain ⟨z0, z1, ⟨q0, q1, q2, q3⟩⟩ := hSw; go_simp; first | done | with_reducible rfl)); (try simp only [Act.put, List.setIfInBounds_toArray, List.set_cons_zero, List.set_cons_succ])) | (refine seq_skip rfl ?_ ?_; rfl; (try simp only [Act.put, List.setIfInBounds_toArray, List.set_cons_zero, List.set_cons_succ])))
          refine seq_done ?_
          go_wp2_with fail
          go_roundw
          case rel => exact ⟨i + 1, by omega, by go_num, HP, HBW⟩
          case measure => first | omega | (simp [intOf]; done) | (simp [intOf]; omega)
        · obtain rfl : i = N := by omega
          have hnn9 : ¬ (i : Int) < (i : Int) := by omega
          obtain ⟨q0, q1, q2, q3⟩ := HP.out.conf
          go_wp2_with fail
          refine (call_any T s so d i _ hlay).mono ?_
          rintro r w9 ⟨rfl, hb⟩
          replace HP := Lib.hid (HP.out.later hb)
          replace HBW := Lib.hid (below_step HBW.out hb)
          clear hb q0 q1 q2 q3
          obtain ⟨q0, q1, q2, q3⟩ := HP.out.conf
          go_wp2_with fail
          refine (call_any T s so d i _ hlay).mono ?_
          rintro r w10 ⟨rfl, hb⟩
          replace HBW := Lib.hid (below_step HBW.out hb)
          clear hb q0 q1 q2 q3
          go_wp2
          go_ret
          exact ⟨rfl, HBW.out⟩

end Go.Proofs.YthlmekkijknooaaGreat
