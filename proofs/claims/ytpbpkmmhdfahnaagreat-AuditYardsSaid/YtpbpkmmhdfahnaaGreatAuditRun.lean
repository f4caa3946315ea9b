/-
  The law's own run of a yard: all that it notes may be, places are counted, numbers fit their kinds. No condition.
-/
import Derived.Test.YtpbpkmmhdfahnaaGreatYardLoop
import Derived.Test.YtpbpkmmhdfahnaaGreatAuditCount
import Derived.Test.YtpbpkmmhdfahnaaGreatHistYard
import Derived.Test.YtpbpkmmhdfahnaaGreatAPut
import Derived.Test.YtpbpkmmhdfahnaaGreatAMem
import Derived.Test.YtpbpkmmhdfahnaaGreatEvOwn
namespace Go.Proofs.YtpbpkmmhdfahnaaGreat
open Go.RowKit
set_option linter.unusedVariables false

theorem fit_next {pl : Nat → Pl} {t n : Nat} {Y Y' : Yd} (h : ∀ e ∈ Y.L, e.Fit) (ho : YOk pl t n Y) (hm : YMv pl Y Y') (hl : Y.C.length ≤ 10000) (hf : ∀ j, 0 ≤ Y.C.getD j 0 ∧ Y.C.getD j 0 ≤ 18446744073709551615) (hf' : ∀ j, 0 ≤ Y'.C.getD j 0 ∧ Y'.C.getD j 0 ≤ 18446744073709551615) : ∀ e ∈ Y'.L, e.Fit := by
  obtain ⟨w, E, hN, hL, _⟩ := YMv.noted ho hm
  rw [hL]
  intro e he
  rcases List.mem_append.1 he with he | he
  · exact h e he
  · rcases hN with ⟨hE, _⟩ | ⟨x, hE, h1⟩
    · rw [hE] at he
      cases he
    · rw [hE] at he
      obtain rfl := List.mem_singleton.1 he
      have hc0 := h1.c0
      have hc1 := h1.c1
      have ho1 := hf e.cell.toNat
      have hn1 := hf' e.cell.toNat
      rw [← h1.old] at ho1
      rw [h1.cells, getD_set_eq' _ (by omega)] at hn1
      exact ⟨ho1.1, ho1.2, hn1.1, hn1.2, WalkArith.wf_i64 (by omega)⟩

/-- What is known of the yard that the law runs. -/
structure ARun (w : World) (r : Ending) (w' : World) (W : World) (l : List Thing) (yb ytb p c T : Nat) (s so d : Int) (N : Nat) (Y : Yd) (J : Nat → Nat) (n : Nat) : Prop where
  ret : r = .returned (pt yb)
  below : Below w.heap.size w W
  yd : YdL W w' l ⟨yb, ytb, p, c, T, s, so, d, T⟩ N Y J n
  few : n ≤ 300
  aok : AOk ⟨yb, ytb, p, c, T, s, so, d, T⟩ N Y
  cok : COk ⟨yb, ytb, p, c, T, s, so, d, T⟩ N Y
  fit : ∀ e ∈ Y.L, e.Fit
  num : YNum Y
  t4 : T ≤ 4
  n16 : N ≤ 16

set_option maxRecDepth 100000 in
set_option maxHeartbeats 8000000 in
theorem arun_any (a0 : Int) (a1 : Int) (a2 : Int) (a3 : Option Addr) (len3 cap3 tb off : Nat) (X : Nat → Mv) (w : World) (hX : IsMvs w a3 len3 cap3 tb off X) (hs : len3 ≤ 300) :
    Calls Tryz.prog 7 #[.int .i64 a0, .int .i64 a1, .int .i64 a2, .slice a3 len3 cap3] w fun r w' => ∃ W l yb ytb p c T s so d N Y J n, ARun w r w' W l yb ytb p c T s so d N Y J n := by
  have HX0 := Lib.hid hX
  clear hX
  go_enter Tryz.func7, Tryz.ntmps7
  go_wp2_with fail
  refine (conf4_any _ _ _ _ _).mono ?_
  rintro e w2 ⟨t, s, so, d, rfl, t1, t4, s1, s4, o0, o4, d0, d3, hb2⟩
  have hB2 := Lib.hid hb2
  clear hb2
  obtain ⟨N, hNe, hlay, hN1, hN2⟩ := lay44 t1 t4 s1 s4
  clear hNe
  obtain ⟨T, rfl⟩ : ∃ T : Nat, t = T := ⟨t.toNat, by omega⟩
  go_wp2_with fail
  have hA := AtC.made w2 T s so d
  have hB3 := below_new (Below.refl w2.heap.size w2) (.cells #[.int .i64 T, .int .i64 s, .int .i64 so, .int .i64 d] 29)
  have hs3 : w2.heap.size < (w2.alloc (.cells #[.int .i64 T, .int .i64 s, .int .i64 so, .int .i64 d] 29)).heap.size := by simp
  have HA := Lib.hid hA
  have HB := Lib.hid (below_step hB2.out hB3)
  have Hs := Lib.hid hs3
  clear hA hB3 hs3 hB2
  generalize w2.alloc (.cells #[.int .i64 T, .int .i64 s, .int .i64 so, .int .i64 d] 29) = W at HA HB Hs ⊢
  generalize w2.heap.size = cb at HA Hs ⊢
  clear w2
  have HX : Hid (IsMvs W a3 len3 cap3 tb off X) := Lib.hid (HX0.out.later HB.out (fun i hi => (HX0.out i hi).2.2.1))
  clear HX0
  refine (ynew_yes (W := W) T s so d N (Below.refl _ _) hlay o0 o4 d0 (by omega)).mono ?_
  rintro r w3 ⟨yb, ytb, p, c, l0, rfl, hl4, hY, hb, hyb⟩
  have HD0 := Lib.hid (YdL.start hlay o0 o4 d0 (by omega) hY)
  have hz : ∀ j, (List.replicate (2 * N + 2 * T) (0 : Int)).getD j 0 = 0 := fun j => by
    rw [List.getD_eq_getElem?_getD, List.getElem?_replicate]
    split <;> rfl
  have HA0 := Lib.hid (AOk.start (B := ⟨yb, ytb, p, c, T, s, so, d, T⟩) (N := N) (List.replicate (2 * N + 2 * T) 0) hz T)
  have HC0 := Lib.hid (COk.start (B := ⟨yb, ytb, p, c, T, s, so, d, T⟩) (N := N) (List.replicate (2 * N + 2 * T) 0) hz T)
  have HN0 := Lib.hid (YNum.start (List.replicate (2 * N + 2 * T) 0) T)
  clear hY hb hyb hl4 hz
  go_wp2_with fail
  go_loopw [27] (fun ix wr => ∃ (i : Nat) (l : List Thing) (Y : Yd) (J : Nat → Nat), i ≤ len3 ∧ ix = .int .i64 i ∧ Hid (YdL W wr l ⟨yb, ytb, p, c, T, s, so, d, T⟩ N Y J i) ∧ Hid (AOk ⟨yb, ytb, p, c, T, s, so, d, T⟩ N Y) ∧ Hid (COk ⟨yb, ytb, p, c, T, s, so, d, T⟩ N Y) ∧ Hid (∀ e ∈ Y.L, e.Fit) ∧ Hid (YNum Y)) (fun ix _ => len3 - (RowKit.intOf ix).toNat)
  case atStart => exact ⟨0, _, _, _, Nat.zero_le _, rfl, HD0, HA0, HC0, (fun e he => by cases he), HN0⟩
  case round =>
    clear HD0 HA0 HC0 HN0
    obtain ⟨i, l, Y, J, hi3, rfl, HD, HAO, HCO, HFI, HNU⟩ := hrel
    rcases Nat.lt_or_ge i len3 with hi | hi
    · have hi' : (i : Int) < (len3 : Int) := by omega
      obtain ⟨rfl, hcap, htb, hx, x0, x1⟩ := HX.out i hi
      have hW1 := HD.out.h.below
      have hx' := hx.later hW1 htb
      obtain ⟨e0, e1, e2, e3, e4, e5, e6⟩ := hx'
      clear hW1 hx
      obtain ⟨q0, q1, q2, q3⟩ := HA.out.later HD.out.h.below Hs.out
      have hcb : cb < wr.heap.size := Nat.lt_of_lt_of_le Hs.out HD.out.h.size
      have hbx := below_new (Below.refl wr.heap.size wr) (.cells (X i).list.toArray 68)
      have HD2 := Lib.hid (HD.out.later hbx)
      clear hbx
      go_wp2_with fail
      refine (HD2.out.do (by omega) (X i) x0 x1).mono ?_
      rintro r w4 ⟨rfl, l1, J1, Y1, hdo, hd, _⟩
      have HD1 := Lib.hid hd
      have HAO1 := Lib.hid (HAO.out.next HD.out.ok HD.out.cf HD.out.hT HD.out.len HD.out.h.fit hdo.how)
      have HCO1 := Lib.hid (HCO.out.next HAO.out HD.out.ok HD.out.cf HD.out.hT HD.out.len HD.out.h.fit hdo.how)
      have HNU1 := Lib.hid (HNU.out.next HD.out.ok hdo.mv)
      have hlen : Y.C.length ≤ 10000 := by
        have h1 : (Y.C.length : Int) = 2 * N + 2 * (T : Int) := HD.out.len
        omega
      have HFI1 : Hid (∀ e ∈ Y1.L, e.Fit) := Lib.hid (fit_next HFI.out HD.out.ok hdo.mv hlen HD.out.h.fit hd.h.fit)
      clear hlen hd hdo e0 e1 e2 e3 e4 e5 e6 q0 q1 q2 q3 hcb HD HD2 HAO HCO HFI HNU
      go_wp2_with fail
      go_roundw
      case rel => exact ⟨i + 1, l1, Y1, J1, by omega, by go_num, HD1, HAO1, HCO1, HFI1, HNU1⟩
      case measure => first | omega | (simp [RowKit.intOf]; done) | (simp [RowKit.intOf]; omega)
    · obtain rfl : i = len3 := by omega
      have hnn : ¬ (i : Int) < (i : Int) := by omega
      clear HX hi hi3
      go_wp2_with fail
      go_ret
      exact ⟨W, l, yb, ytb, p, c, T, s, so, d, N, Y, J, i, rfl, HB.out, HD.out, hs, HAO.out, HCO.out, HFI.out, HNU.out, by omega, hN2⟩
end Go.Proofs.YtpbpkmmhdfahnaaGreat
