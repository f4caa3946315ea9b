/-
  YardOnes answers true for all lists and numbers, and leaves all memory that was there as it was. No condition.
-/
import Derived.Test.YthmjmlkndnijhaaGreatYardLoop
namespace Go.Proofs.YthmjmlkndnijhaaGreat
open Go.RowKit
set_option linter.unusedVariables false

theorem flatE_last (L : List Ev) (e : Ev) : (flatE (L ++ [e]))[L.length * 6]? = some (i64 e.who) := by
  rw [flatE_append, List.getElem?_append_right (by rw [flatE_length]; exact Nat.le_refl _), flatE_length, Nat.sub_self]
  rfl

set_option maxRecDepth 100000 in
set_option maxHeartbeats 8000000 in
theorem walk_YardOnes (a0 : Int) (a1 : Int) (a2 : Int) (a3 : Option Addr) (len3 cap3 : Nat) (w : World) (w0 : (Lit.int .i64 a0).wf = true) (w1 : (Lit.int .i64 a1).wf = true) (w2 : (Lit.int .i64 a2).wf = true) (w3 : IsRows w [.inl .i64, .inl .i64, .inr true, .inr true, .inl .u64, .inl .i64, .inl .i64] a3 len3 cap3) :
    Calls Tryz.prog 4 #[.int .i64 a0, .int .i64 a1, .int .i64 a2, .slice a3 len3 cap3] w fun e w' => e = .returned (.bool true) ∧ Below w.heap.size w w' := by
  clear w0 w1 w2
  rcases Nat.lt_or_ge 300 len3 with hbig | hs4
  · have hbig' : (300 : Int) < (len3 : Int) := by omega
    clear w3
    go_enter Tryz.func4, Tryz.ntmps4
    go_wp2_with fail
    refine (head13_any _).mono ?_
    rintro e w1 ⟨rfl, hb1⟩
    go_wp2_with fail
    go_ret
    exact ⟨rfl, hb1⟩
  have p4 : decide ((300 : Int) < (len3 : Int)) = false := decide_eq_false (by omega)
  obtain ⟨tb, off, X, hX⟩ := rows_mvs w3
  have HX0 : Hid (IsMvs w a3 len3 cap3 tb off X) := hX
  clear w3 hX
  go_enter Tryz.func4, Tryz.ntmps4
  go_wp2_with fail
  refine (head13_any _).mono ?_
  rintro e w1 ⟨rfl, hb1⟩
  go_wp2_with fail
  refine (conf4_any _ _ _ _ _).mono ?_
  rintro e w2 ⟨t, s, so, d, rfl, t1, t4, s1, s4, o0, o4, d0, d3, hb2⟩
  have hB2 := Lib.hid (below_step hb1 hb2)
  clear hb1 hb2
  obtain ⟨N, hNe, hlay, hN1, hN2⟩ := lay44 t1 t4 s1 s4
  clear hNe
  obtain ⟨T, rfl⟩ : ∃ T : Nat, t = T := ⟨t.toNat, by omega⟩
  go_wp2_with fail
  have hA := AtC.made w2 T s so d
  have hB3 := below_new (Below.refl w2.heap.size w2) (.cells #[.int .i64 T, .int .i64 s, .int .i64 so, .int .i64 d] 26)
  have hs3 : w2.heap.size < (w2.alloc (.cells #[.int .i64 T, .int .i64 s, .int .i64 so, .int .i64 d] 26)).heap.size := by simp
  have HA := Lib.hid hA
  have HB := Lib.hid (below_step hB2.out hB3)
  have Hs := Lib.hid hs3
  clear hA hB3 hs3 hB2
  generalize w2.alloc (.cells #[.int .i64 T, .int .i64 s, .int .i64 so, .int .i64 d] 26) = W at HA HB Hs ⊢
  generalize w2.heap.size = cb at HA Hs ⊢
  clear w2 w1
  have HX : Hid (IsMvs W a3 len3 cap3 tb off X) := Lib.hid (HX0.out.later HB.out (fun i hi => (HX0.out i hi).2.2.1))
  clear HX0
  refine (ynew_yes (W := W) T s so d N (Below.refl _ _) hlay o0 o4 d0 (by omega)).mono ?_
  rintro r w3 ⟨yb, ytb, p, c, l0, rfl, hl4, hY, hb, hyb⟩
  have HD0 := Lib.hid (YdL.start hlay o0 o4 d0 (by omega) hY)
  have HL4 := Lib.hid hl4
  clear hY hb hyb hl4
  go_wp2_with fail
  go_loopw [12, 36] (fun nn ix wr => ∃ (i : Nat) (l : List Thing) (Y : Yd) (J : Nat → Nat), i ≤ len3 ∧ ix = .int .i64 i ∧ nn = .int .i64 (Y.L.length : Nat) ∧ Hid (YdL W wr l ⟨yb, ytb, p, c, T, s, so, d, T⟩ N Y J i)) (fun _ ix _ => len3 - (intOf ix).toNat)
  case atStart => exact ⟨0, _, _, _, Nat.zero_le _, rfl, rfl, HD0⟩
  case round =>
    clear HD0
    obtain ⟨i, l, Y, J, hi3, rfl, rfl, HD⟩ := hrel
    rcases Nat.lt_or_ge i len3 with hi | hi
    · have hi' : (i : Int) < (len3 : Int) := by omega
      obtain ⟨rfl, hcap, htb, hx, x0, x1⟩ := HX.out i hi
      have hW1 := HD.out.h.below
      have hx' := hx.later hW1 htb
      obtain ⟨e0, e1, e2, e3, e4, e5, e6⟩ := hx'
      clear hW1 hx
      obtain ⟨q0, q1, q2, q3⟩ := HA.out.later HD.out.h.below Hs.out
      have hcb : cb < wr.heap.size := Nat.lt_of_lt_of_le Hs.out HD.out.h.size
      have HBX := Lib.hid (IsObj.made wr (X i).list 41)
      have hbx := below_new (Below.refl wr.heap.size wr) (.cells (X i).list.toArray 41)
      have HBN := Lib.hid hbx
      clear hbx
      go_wp2_with fail
      refine (HD.out.do1 (by omega) HBN.out HBX.out (Nat.le_refl _) (X i) x0 x1).mono ?_
      rintro r w4 ⟨rfl, l1, J1, Y1, hdo, hd, hbo, _⟩
      have HNT := Lib.hid (hdo.notes HD.out.ok)
      have HD1 := Lib.hid hd
      have HB1 := Lib.hid hbo
      clear hdo hd hbo HBX HBN e0 e1 e2 e3 e4 e5 e6 q0 q1 q2 q3 hcb
      have HNL := Lib.hid (show Y.L.length ≤ 1000 by have := HD.out.ok.nL; have := HD.out.ok.most; omega)
      clear HD
      generalize wr.heap.size = bx at HB1 ⊢
      go_wp2_with fail
      refine (HD1.out.log (by omega)).mono ?_
      rintro r w5 ⟨u5, rfl, hr5, hb5⟩
      replace HD1 := Lib.hid (HD1.out.later hb5)
      replace HB1 := Lib.hid (HB1.out.later hb5)
      obtain ⟨A5, cap5, rfl⟩ := own_shape hr5
      have HR5 := Lib.hid hr5
      clear hr5 hb5
      have hq : bits .and .i64 (X i).kind 7 = (X i).k := and_7' (X i).kind
      have hk8 : 0 ≤ (X i).k ∧ (X i).k ≤ 7 := ⟨by unfold Mv.k; omega, by unfold Mv.k; omega⟩
      obtain ⟨m0, m1, m2, m3, m4, m5, m6⟩ := AtMv.obj HB1.out
      simp only [Nat.zero_add] at m1 m2 m3 m4 m5 m6
      have hnl := HNL.out
      rcases HNT.out with hL | ⟨hk0, hk6, ev, hL, hw⟩
      · have HL := Lib.hid hL
        rw [hL] at HR5 ⊢
        clear hL HNT
        rcases (by omega : (X i).k = 0 ∨ (X i).k = 6 ∨ ((X i).k ≠ 0 ∧ (X i).k ≠ 6)) with hk | hk | ⟨hk, hk'⟩
        · rw [hk] at hq
          go_wp2_with fail
          go_roundw
          case rel => exact ⟨i + 1, l1, Y1, J1, by omega, by go_num, by rw [HL.out], HD1⟩
          case measure => first | omega | (simp [intOf]; done) | (simp [intOf]; omega)
        · rw [hk] at hq
          go_wp2_with fail
          go_roundw
          case rel => exact ⟨i + 1, l1, Y1, J1, by omega, by go_num, by rw [HL.out], HD1⟩
          case measure => first | omega | (simp [intOf]; done) | (simp [intOf]; omega)
        · have n0 : ((X i).k != 0) = true := by simp [hk]
          have n6 : ((X i).k != 6) = true := by simp [hk']
          go_wp2_with fail
          go_roundw
          case rel => exact ⟨i + 1, l1, Y1, J1, by omega, by go_num, by rw [HL.out], HD1⟩
          case measure => first | omega | (simp [intOf]; done) | (simp [intOf]; omega)

      · have HL := Lib.hid hL
        obtain ⟨g5, cap5', hv⟩ := own_at HR5.out (by rw [hL]; simp)
        cases hv
        have hcell : w5.cell? ⟨g5, Y.L.length * 6, none⟩ = some (i64 ev.who) := (HR5.out.cellAt (Y.L.length * 6) (by rw [hL, List.length_append]; show _ < (Y.L.length + 1) * 6; omega)).trans (by rw [hL]; exact flatE_last _ _)
        rw [hL, List.length_append]
        clear hL HNT
        have n0 : ((X i).k != 0) = true := by simp [hk0]
        have n6 : ((X i).k != 6) = true := by simp [hk6]
        obtain ⟨q0, q1, q2, q3⟩ := HA.out.later HD1.out.h.below Hs.out
        obtain ⟨u, hu, u0, u1⟩ : ∃ u, bits .and .i64 (X i).who 65535 = u ∧ 0 ≤ u ∧ u ≤ 65535 := ⟨_, and_ffff (X i).who, by omega, by omega⟩
        have hth : u.tmod T = (X i).w T := by
          rw [Int.tmod_eq_emod_of_nonneg u0, ← hu, and_ffff]
          rfl
        rcases (by omega : (X i).k = 7 ∨ (X i).k ≠ 7) with hk | hk
        · rw [if_pos hk] at hw
          rw [hk] at hq n0 n6
          rw [hw] at hcell
          go_wp2_with fail
          go_roundw
          case rel => exact ⟨i + 1, l1, Y1, J1, by omega, by go_num, by rw [HL.out, List.length_append]; rfl, HD1⟩
          case measure => first | omega | (simp [intOf]; done) | (simp [intOf]; omega)
        · rw [if_neg hk] at hw
          have n7 : ((X i).k == 7) = false := by simp [hk]
          rw [hw] at hcell
          go_wp2_with fail
          go_roundw
          case rel => exact ⟨i + 1, l1, Y1, J1, by omega, by go_num, by rw [HL.out, List.length_append]; rfl, HD1⟩
          case measure => first | omega | (simp [intOf]; done) | (simp [intOf]; omega)

    · obtain rfl : i = len3 := by omega
      have hnn : ¬ (i : Int) < (i : Int) := by omega
      go_wp2
      go_ret
      exact ⟨rfl, below_step' HB.out HD.out.h.below HB.out.size⟩

end Go.Proofs.YthmjmlkndnijhaaGreat
