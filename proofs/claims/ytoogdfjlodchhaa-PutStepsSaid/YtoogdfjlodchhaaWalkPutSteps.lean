/-
  PutSteps answers true for all lists and numbers, and leaves all memory that was there as it was. No condition.
-/
import Derived.Test.YtoogdfjlodchhaaPutStepsPure
import Derived.Test.YtoogdfjlodchhaaWalkPutTurn
import Derived.Test.YtoogdfjlodchhaaClaimMore
import Derived.Test.YtoogdfjlodchhaaPutCells
import Derived.Test.YtoogdfjlodchhaaMemSame
import Derived.Test.YtoogdfjlodchhaaRegionT
import Derived.Deep.DeepCutAuto
namespace Go.Proofs.Ytoogdfjlodchhaa
open Go.RowKit
set_option linter.unusedVariables false

theorem tkphase_at {w : World} {b : Nat} {k : Tk} (x : Int) (hx : k.ph = x) (hT : IsTk w b k) : Calls Try.prog 26 #[pt b] w fun r w' => r = .returned (i64 x) ∧ Below w.heap.size w w' := hx ▸ quiet_below (phase_any w b k hT)
theorem tkstamp_at {w : World} {b : Nat} {k : Tk} (x y : Int) (hx : k.lo = x) (hy : k.hi = y) (hT : IsTk w b k) : Calls Try.prog 31 #[pt b] w fun r w' => r = .returned (st x y) ∧ Below w.heap.size w w' := hx ▸ hy ▸ stamp_any w b k hT

set_option maxRecDepth 100000 in
set_option maxHeartbeats 8000000 in
theorem walk_PutSteps (a0 : Int) (a1 : Int) (a2 : Int) (a3 : Int) (a4 : Int) (a5 : Option Addr) (len5 cap5 : Nat) (a6 : Option Addr) (len6 cap6 : Nat) (a7 : Bool) (a8 : Int) (a9 : Option Addr) (len9 cap9 : Nat) (w : World) (w0 : (Lit.int .i64 a0).wf = true) (w1 : (Lit.int .i64 a1).wf = true) (w2 : (Lit.int .i64 a2).wf = true) (w3 : (Lit.int .i64 a3).wf = true) (w4 : (Lit.int .i64 a4).wf = true) (w5 : IsRows w [.inl .i64, .inl .i64, .inr true] a5 len5 cap5) (w6 : IsRows w [.inl .i64] a6 len6 cap6) (w8 : (Lit.int .u64 a8).wf = true) (w9 : IsRows w [.inl .i64, .inl .u64, .inr true, .inl .i64] a9 len9 cap9) :
    Calls Try.prog 3 #[.int .i64 a0, .int .i64 a1, .int .i64 a2, .int .i64 a3, .int .i64 a4, .slice a5 len5 cap5, .slice a6 len6 cap6, .bool a7, .int .u64 a8, .slice a9 len9 cap9] w fun e w' => e = .returned (.bool true) ∧ Below w.heap.size w w' := by
  obtain ⟨V0, V1⟩ := bounds_u64 w8
  clear w0 w1 w2 w3 w4 w8
  rcases Nat.lt_or_ge 64 len5 with hbig | hs5
  · have hbig' : (64 : Int) < (len5 : Int) := by omega
    clear w5 w6 w9
    go_enter Try.func3, Try.ntmps3
    go_wp2_with fail
    refine (head10_any _).mono ?_
    rintro e w1 ⟨rfl, hb1⟩
    go_wp2_with fail
    go_ret
    exact ⟨rfl, hb1⟩
  have p5 : decide ((64 : Int) < (len5 : Int)) = false := decide_eq_false (by omega)
  rcases Nat.lt_or_ge 64 len6 with hbig | hs6
  · have hbig' : (64 : Int) < (len6 : Int) := by omega
    clear w5 w6 w9
    go_enter Try.func3, Try.ntmps3
    go_wp2_with fail
    refine (head10_any _).mono ?_
    rintro e w1 ⟨rfl, hb1⟩
    go_wp2_with fail
    go_ret
    exact ⟨rfl, hb1⟩
  have p6 : decide ((64 : Int) < (len6 : Int)) = false := decide_eq_false (by omega)
  rcases Nat.lt_or_ge 30 len9 with hbig | hs9
  · have hbig' : (30 : Int) < (len9 : Int) := by omega
    clear w5 w6 w9
    go_enter Try.func3, Try.ntmps3
    go_wp2_with fail
    refine (head10_any _).mono ?_
    rintro e w1 ⟨rfl, hb1⟩
    go_wp2_with fail
    go_ret
    exact ⟨rfl, hb1⟩
  have p9 : decide ((30 : Int) < (len9 : Int)) = false := decide_eq_false (by omega)
  obtain ⟨tb, off, X, hX⟩ := rows_place w5
  have HX5 : Hid (IsPl w a5 len5 cap5 tb off X) := hX
  obtain ⟨ub, uff, Y, hY⟩ := rows_ints w6
  have HY6 : Hid (IsNs w a6 len6 cap6 ub uff Y) := hY
  obtain ⟨vb, vff, Y9, hY9⟩ := rows_turn4 w9
  have HY9 : Hid (IsTu w a9 len9 cap9 vb vff Y9) := hY9
  obtain ⟨uw, huw, lw, gw⟩ : ∃ u, bits .and .i64 a4 65535 = u ∧ 0 ≤ u ∧ u ≤ 65535 := ⟨_, and_ffff a4, by omega, by omega⟩
  clear w5 w6 w9 hX hY hY9
  go_enter Try.func3, Try.ntmps3
  go_wp2_with fail
  refine (head10_any _).mono ?_
  rintro e w1 ⟨rfl, hb1⟩
  go_wp2_with fail
  refine (conf4_any _ _ _ _ _).mono ?_
  rintro e w2 ⟨t, s, so, d, rfl, t1, t2, s1, s2, o0, o4, d0, d3, hb2⟩
  have ht0 : (t == 0) = false := by simp; omega
  have hB2 := Lib.hid (below_step hb1 hb2)
  clear hb1 hb2
  obtain ⟨N, hNe, hlay, hN1, hN2⟩ := lay44 t1 t2 s1 s2
  have hn0 : ¬ N = 0 := by omega
  clear hNe
  go_upto_if 63 with (fail)
  have hw0 := Int.emod_nonneg uw (show t ≠ 0 by omega)
  have hw1 := Int.emod_lt_of_pos uw (show 0 < t by omega)
  generalize uw % t = who at hw0 hw1 ⊢
  clear huw lw gw
  have hA := AtC.made w2 t s so d
  have hB3 := below_new (Below.refl w2.heap.size w2) (.cells #[.int .i64 t, .int .i64 s, .int .i64 so, .int .i64 d] 29)
  have hs3 : w2.heap.size < (w2.alloc (.cells #[.int .i64 t, .int .i64 s, .int .i64 so, .int .i64 d] 29)).heap.size := by simp
  have HA := Lib.hid hA
  have HB := Lib.hid (below_step hB2.out hB3)
  have Hs := Lib.hid hs3
  clear hA hB3 hs3 hB2
  generalize w2.alloc (.cells #[.int .i64 t, .int .i64 s, .int .i64 so, .int .i64 d] 29) = W at HA HB Hs ⊢
  generalize w2.heap.size = cb at HA Hs ⊢
  clear w2 w1
  obtain ⟨M, hM⟩ : ∃ M : Nat, 2 * (N : Int) + 2 * t = (M : Int) := ⟨(2 * (N : Int) + 2 * t).toNat, by omega⟩
  obtain ⟨nb, hnb⟩ : ∃ nb : Nat, (nb : Int) = 2 * N + t := ⟨(2 * N + t).toNat, by omega⟩
  obtain ⟨hz, hhz⟩ : ∃ hz : Nat, (hz : Int) = 2 * N := ⟨2 * N, by omega⟩
  have HM := Lib.hid hM
  have Hnb := Lib.hid hnb
  have Hhz := Lib.hid hhz
  go_cut [22] (fun s22 wx => ∃ en : Int, s22 = .int .i64 en ∧ 0 ≤ en ∧ en ≤ 1 ∧ wx = W)
  case first =>
    cases a7 with
    | false =>
      go_wp2_with fail
      go_meet
      exact ⟨0, rfl, by decide, by decide, rfl⟩
    | true =>
      go_wp2_with fail
      go_meet
      exact ⟨1, rfl, by decide, by decide, rfl⟩
  case rest =>
  obtain ⟨en, rfl, en0, en1, rfl⟩ := hcut
  obtain ⟨q0, q1, q2, q3⟩ := HA.out
  go_wp2_with fail
  refine (cells4_any wc.heap.size t s so d N M HM.out a5 a6 len5 cap5 len6 cap6 tb off ub uff X Y _ hlay t2 hN2 (Nat.le_refl _) (HX5.out.later HB.out (fun i hi => (HX5.out i hi).2.2.1)) (HY6.out.later HB.out (fun i hi => (HY6.out i hi).2.2.1))).mono ?_
  rintro r w2 ⟨p, c, v, rfl, hM2, hb2, hft⟩
  have HH0 := Lib.hid (Hold.more (Hold.nil (Below.refl wc.heap.size wc)) hb2 (tMem_ok _ _ _ _ _ _) hM2 hft)
  clear hM2 hb2 hft q0 q1 q2 q3
  obtain ⟨q0, q1, q2, q3⟩ := HA.out.later (Hold.below HH0.out) Hs.out
  go_wp2_with fail
  refine (cells4_any wc.heap.size t s so d N M HM.out a5 a6 len5 cap5 len6 cap6 tb off ub uff X Y _ hlay t2 hN2 (Hold.size HH0.out) (HX5.out.later (below_step' HB.out (Hold.below HH0.out) HB.out.size) (fun i hi => (HX5.out i hi).2.2.1)) (HY6.out.later (below_step' HB.out (Hold.below HH0.out) HB.out.size) (fun i hi => (HY6.out i hi).2.2.1))).mono ?_
  rintro r w3 ⟨p', c', v', rfl, hM3, hb3, hft⟩
  have HH1 := Lib.hid (two_made HH0.out hM3 hb3 hft)
  have hL0 := ctlL_len X Y N M (min N len5) (min t.toNat len6)
  have hC0 := ctlC_len X Y N M (min N len5) (min t.toNat len6)
  clear hM3 hb3 hft HH0 q0 q1 q2 q3
  generalize ctlL X Y N M (min N len5) (min t.toNat len6) = L at HH1 hL0
  generalize ctlC X Y N M (min N len5) (min t.toNat len6) = C at HH1 hC0
  generalize wc = W at HA HB Hs HH1
  have HC := Lib.hid hC0
  have HL : Hid (L.length ≤ 40 + 2 * 0) := by show _ ≤ _; omega
  clear hL0 hC0 hM hnb hhz
  obtain ⟨m, hm, hmN⟩ := who_s hlay hw0 hw1
  have Hm := Lib.hid hm
  clear hm
  obtain ⟨q0, q1, q2, q3⟩ := HA.out.later (Hold.below HH1.out) Hs.out
  go_wp2_with fail
  refine (punew_any _ N m t s so d who en a8 hlay hw0 hw1 Hm.out (by omega) hmN).mono ?_
  rintro r w4 ⟨b, b1, b2, rfl, hS4, hb4, hbb⟩
  have HH2 := Lib.hid (Hold.more HH1.out hb4 (tPu_ok _ _ _ _ _) ⟨hS4, fun i hi => Nat.le_trans (Hold.size HH1.out) (hbb i hi)⟩ hbb)
  clear hS4 hb4 hbb HH1 q0 q1 q2 q3
  obtain ⟨q0, q1, q2, q3⟩ := HA.out.later (Hold.below HH2.out) Hs.out
  go_wp2_with fail
  refine (clnew_any _ N m t s so d who hlay hw0 hw1 Hm.out (by omega) hmN).mono ?_
  rintro r w5 ⟨ba, rfl, hS5, hb5, hbb⟩
  have HH3 := Lib.hid (Hold.more HH2.out hb5 (tObj_ok _ _ _) ⟨hS5, Nat.le_trans (Hold.size HH2.out) hbb⟩ (fun q hq => by cases hq; exact hbb))
  clear hS5 hb5 hbb HH2 q0 q1 q2 q3
  obtain ⟨q0, q1, q2, q3⟩ := HA.out.later (Hold.below HH3.out) Hs.out
  go_wp2_with fail
  refine (tnew_any _ t s so d who).mono ?_
  rintro r w6 ⟨bt, rfl, hS6, hb6, hbb⟩
  have HH4 : Hid (Hold W w6 (twoL W.heap.size p c p' c' v v' C C L L b b1 b2 ba bt (pu0 t s so d who en a8 m) (pu0 t s so d who en a8 m).cl (pu0 t s so d who en a8 m).tk)) := Hold.more HH3.out hb6 (tTk_ok _ _ _) ⟨hS6, Nat.le_trans (Hold.size HH3.out) hbb⟩ (fun q hq => by cases hq; exact hbb)
  clear hS6 hb6 hbb HH3 q0 q1 q2 q3
  obtain ⟨Q, q, hq1, hQ, hQ1, hQ2, hQ3, hQ4⟩ := pmost_le (so := so) t1 t2 s1 s2 d0 d3
  have HPM := Lib.hid (fun W' => pmost_any t s so d t1 t2 s1 s2 d0 d3 o0 o4 Q hQ W')
  have HK : Hid ((pu0 t s so d who en a8 m).Ok N m nb hz C) := pu0_ok hlay Hhz.out Hnb.out (by have := HC.out; have := HM.out; have := Hnb.out; omega) hw0 hw1 Hm.out (by omega) hmN o0 o4 d0 (by omega) en0 en1 V0 V1
  have HSM : Hid ((pu0 t s so d who en a8 m).Same (pu0 t s so d who en a8 m)) := Pu.Same.refl _
  have HR : Hid ((pu0 t s so d who en a8 m).ph = 0 → ((0 : Nat) : Int) + (pu0 t s so d who en a8 m).rem m ≤ (Q : Int)) := fun _ => by rw [pu0_rem, hQ]; omega
  clear hQ hq1 hQ3
  go_wp2_with fail
  go_loopw [28, 29, 30, 31] (fun s28 s29 s30 i wr => ∃ (n : Nat) (tm : Int) (v v' : Value) (C : List Int) (L : List Ev) (k : Pu), n ≤ Q + 2 ∧ i = .int .i64 n ∧ s28 = .int .i64 k.ph ∧ s29 = .bool (decide (k.next = 3)) ∧ s30 = .int .i64 tm ∧ 0 ≤ tm ∧ tm ≤ 1073741824 ∧ Hid (Hold W wr (twoL W.heap.size p c p' c' v v' C C L L b b1 b2 ba bt k k.cl k.tk)) ∧ Hid (k.Ok N m nb hz C) ∧ Hid ((pu0 t s so d who en a8 m).Same k) ∧ Hid (k.ph = 0 → (n : Int) + k.rem m ≤ (Q : Int)) ∧ Hid (C.length = M) ∧ Hid (L.length ≤ 40 + 2 * n)) (fun _ _ _ i _ => 40 - (intOf i).toNat)
  case atStart => exact ⟨0, 0, _, _, _, _, _, by omega, rfl, rfl, rfl, rfl, by decide, by decide, HH4, HK, HSM, HR, HC, HL⟩
  case round =>
    clear HH4 HK HSM HR HC HL
    obtain ⟨n, tm, v, v', C, L, k, hn, rfl, rfl, rfl, rfl, tm0, tm1, HH, HK, HSM, HR, HC, HL⟩ := hrel
    obtain ⟨q0, q1, q2, q3⟩ := HA.out.later (Hold.below HH.out) Hs.out
    have HG : Hid (decide (k.next = 3) = decide (k.next = 3)) := rfl
    obtain ⟨sd, hsd⟩ : ∃ sd : Bool, decide (k.next = 3) = sd := ⟨_, rfl⟩
    obtain ⟨kph, hkph⟩ : ∃ kph, k.ph = kph := ⟨_, rfl⟩
    rw [hsd, hkph]
    have HSD := Lib.hid hsd
    have HKP := Lib.hid hkph
    clear hsd hkph HG
    go_wp2_with fail
    refine (HPM.out _).mono ?_
    rintro r w4 ⟨rfl, hb4⟩
    replace HH := Lib.hid (Hold.later HH.out hb4)
    clear hb4 q0 q1 q2 q3
    rcases Nat.lt_or_ge n (Q + 2) with hlt | hge
    · have hlt' : (n : Int) < (Q : Int) + 2 := by omega
      obtain ⟨wr, rfl⟩ : ∃ x, x = w4 := ⟨_, rfl⟩
      go_upto_if 93 with (fail)
      go_cut [30] (fun s30 wx => ∃ (tm' : Int) (v2 v2' : Value) (C' : List Int) (L' : List Ev), s30 = .int .i64 tm' ∧ 0 ≤ tm' ∧ tm' ≤ 1073741824 ∧ Hid (Hold W wx (twoL W.heap.size p c p' c' v2 v2' C' C' L' L' b b1 b2 ba bt k k.cl k.tk)) ∧ Hid (C'.length = C.length) ∧ Hid (L'.length ≤ L.length + 1))
      case first =>
        have hcb := Hs.out
        rcases Nat.lt_or_ge n len9 with hlt9 | hge9
        · obtain ⟨rfl, hcap, htb, hx0, hx1, hx2, hx3, z0, z1⟩ := HY9.out n hlt9
          have hlt9' : (n : Int) < (len9 : Int) := by omega
          have hwW : Below w.heap.size w wr := below_step' HB.out (Hold.below HH.out) HB.out.size
          replace hx0 := (hwW.cell (p := ⟨vb, _, none⟩) htb).trans hx0
          replace hx1 := (hwW.cell (p := ⟨vb, _, none⟩) htb).trans hx1
          replace hx2 := (hwW.cell (p := ⟨vb, _, none⟩) htb).trans hx2
          replace hx3 := (hwW.cell (p := ⟨vb, _, none⟩) htb).trans hx3
          generalize (Y9 n).1 = th at hx0
          generalize (Y9 n).2.1 = x at hx1 z0 z1
          generalize (Y9 n).2.2.1 = sb at hx2
          generalize (Y9 n).2.2.2 = ti at hx3
          obtain ⟨u4, hu4, l4, g4⟩ : ∃ u, bits .and .i64 ti 16777215 = u ∧ 0 ≤ u ∧ u ≤ 16777215 := ⟨ti % 16777216, by rw [show (16777215 : Int) = ((16777215 : Nat) : Int) from rfl, and_i64 ti 16777215 24 rfl (by decide)]; rfl, by omega, by omega⟩
          have hbx := below_new (Below.refl wr.heap.size wr) (.cells #[.int .i64 th, .int .u64 x, .bool sb, .int .i64 ti] 43)
          have HX : Hid (IsObj (wr.alloc (.cells #[.int .i64 th, .int .u64 x, .bool sb, .int .i64 ti] 43)) wr.heap.size [.int .i64 th, .int .u64 x, .bool sb, .int .i64 ti]) := IsObj.made wr [.int .i64 th, .int .u64 x, .bool sb, .int .i64 ti] 43
          have HHx := Lib.hid (Hold.later HH.out hbx)
          have HFt : Hid (∀ q, (Foot p c v q ∨ Foot p' c' v' q) → q ≠ wr.heap.size) := fun q hq e => by
            rcases hq with hq | hq
            · have := ((Hold.has HH.out 0 _ rfl : IsMem W.heap.size wr p c v C L).foot q hq).2
              omega
            · have := ((Hold.has HH.out 1 _ rfl : IsMem W.heap.size wr p' c' v' C L).foot q hq).2
              omega
          clear hwW hbx
          cases sb with
          | false =>
            as_aux_lemma =>
              rcases Int.lt_or_le 1073741824 (tm + u4) with hT | hT
              · go_wp2_with fail
                go_meet
                exact ⟨1073741824, v, v', C, L, rfl, by decide, by decide, HHx, rfl, Nat.le_succ _⟩
              · go_wp2_with fail
                go_meet
                exact ⟨tm + u4, v, v', C, L, rfl, by omega, hT, HHx, rfl, Nat.le_succ _⟩
          | true =>
            as_aux_lemma =>
              have htn : ¬ t = 0 := by omega
              obtain ⟨u5, hu5, l5, g5⟩ : ∃ u, bits .and .i64 th 65535 = u ∧ 0 ≤ u ∧ u ≤ 65535 := ⟨_, and_ffff th, by omega, by omega⟩
              obtain ⟨j, hj, hjt⟩ : ∃ j : Nat, u5.tmod t = (j : Int) ∧ (j : Int) < t := by
                have h1 := Int.emod_nonneg u5 (show t ≠ 0 by omega)
                have h2 := Int.emod_lt_of_pos u5 (show 0 < t by omega)
                rw [Int.tmod_eq_emod_of_nonneg l5]
                exact ⟨(u5 % t).toNat, by omega, by omega⟩
              have hal : wr.heap.size + 1 ≤ (wr.alloc (.cells #[.int .i64 th, .int .u64 x, .bool true, .int .i64 ti] 43)).heap.size := by simp
              rcases Int.lt_or_le 1073741824 (tm + u4) with hT | hT
              · go_wp2_with fail
                generalize wr.alloc (.cells #[.int .i64 th, .int .u64 x, .bool true, .int .i64 ti] 43) = wa at HHx HX ⊢
                generalize wr.heap.size = bx at HX HFt ⊢
                clear hx0 hx1 hx2 hx3 hal
                go_wp2_with fail
                refine wp_region_seqS ((fun w' => AtC w' cb t s so d ∧ w'.cell? ⟨bx, 0, none⟩ = some (.int .i64 th) ∧ w'.cell? ⟨bx, 1, none⟩ = some (.int .u64 x))) ((0, true) :: (1, true) :: (2, true) :: (3, true) :: (4, true) :: (5, true) :: (6, true) :: (7, true) :: (9, true) :: (10, true) :: (8, false) :: (11, false) :: []) (by kernel_rfl) (by kernel_rfl) (by kernel_rfl) (by decide) (fun _ _ _ _ _ h => h) (⟨HA.out.later (Hold.below (Hold.drew HHx.out)) Hs.out, HX.out.drew.at' 0 _ rfl, HX.out.drew.at' 1 _ rfl⟩) ?_
                replace HHx := Lib.hid (Hold.drew HHx.out)
                replace HX := Lib.hid HX.out.drew
                (try clear y0 y1 y2 y3)
                repeat (first | (refine seq_take (v := ?_) rfl ?_ ?_ ?_; rotate_left 1; rfl; (focus (intro wS hSw; obtain ⟨⟨k0, k1, k2, k3⟩, kx, ky⟩ := hSw; go_simp; first | done | with_reducible rfl)); (try simp only [Act.put, List.setIfInBounds_toArray, List.set_cons_zero, List.set_cons_succ])) | (refine seq_skip rfl ?_ ?_; rfl; (try simp only [Act.put, List.setIfInBounds_toArray, List.set_cons_zero, List.set_cons_succ])))
                refine seq_run rfl (fun K hK => ?_)
                go_simp
                (try rw [hj])
                go_at_call 23
                refine (cnum_at t s so d N nb j _ hlay Hnb.out (by omega)).mono ?_
                rintro r wn ⟨rfl, hbn⟩
                (try go_wp2_with fail)
                replace HHx := Lib.hid (Hold.later HHx.out hbn)
                replace HX := Lib.hid (HX.out.later hbn)
                clear hbn
                refine hK.out _ _ (⟨HA.out.later (Hold.below HHx.out) Hs.out, HX.out.at' 0 _ rfl, HX.out.at' 1 _ rfl⟩) (fun _ => ?_)
                (try simp only [Act.put, List.setIfInBounds_toArray, List.set_cons_zero, List.set_cons_succ])
                clear hK K
                repeat (first | (refine seq_take (v := ?_) rfl ?_ ?_ ?_; rotate_left 1; rfl; (focus (intro wS hSw; obtain ⟨⟨k0, k1, k2, k3⟩, kx, ky⟩ := hSw; go_simp; first | done | with_reducible rfl)); (try simp only [Act.put, List.setIfInBounds_toArray, List.set_cons_zero, List.set_cons_succ])) | (refine seq_skip rfl ?_ ?_; rfl; (try simp only [Act.put, List.setIfInBounds_toArray, List.set_cons_zero, List.set_cons_succ])))
                refine seq_run rfl (fun K hK => ?_)
                go_simp
                go_at_call 22
                refine (store_in W.heap.size _ p c _ _ _ (-1) (nb + j) _ x (Hold.has HHx.out 0 _ rfl) (getD_pu (by have := HC.out; have := HM.out; have := Hnb.out; omega)) (Hold.size HHx.out) (by have := HL.out; omega) z0 z1).mono ?_
                rintro r wm ⟨rfl, v2, hTm⟩
                (try go_wp2_with fail)
                replace HX := Lib.hid (HX.out.keep hTm.keep (fun hf => HFt.out _ (.inl hf) rfl))
                replace HHx := Lib.hid (Hold.mem HHx.out 0 rfl hTm)
                clear hTm
                refine hK.out _ _ (⟨HA.out.later (Hold.below HHx.out) Hs.out, HX.out.at' 0 _ rfl, HX.out.at' 1 _ rfl⟩) (fun _ => ?_)
                (try simp only [Act.put, List.setIfInBounds_toArray, List.set_cons_zero, List.set_cons_succ])
                clear hK K
                refine seq_done ?_
                have y0 := HX.out.at' 2 _ rfl
                have y1 := HX.out.at' 3 _ rfl
                clear y0 y1
                go_wp2_with fail
                refine wp_region_seqS ((fun w' => AtC w' cb t s so d ∧ w'.cell? ⟨bx, 0, none⟩ = some (.int .i64 th) ∧ w'.cell? ⟨bx, 1, none⟩ = some (.int .u64 x))) ((0, true) :: (1, true) :: (2, true) :: (3, true) :: (4, true) :: (5, true) :: (6, true) :: (7, true) :: (9, true) :: (10, true) :: (8, false) :: (11, false) :: []) (by kernel_rfl) (by kernel_rfl) (by kernel_rfl) (by decide) (fun _ _ _ _ _ h => h) (⟨HA.out.later (Hold.below (Hold.drew HHx.out)) Hs.out, HX.out.drew.at' 0 _ rfl, HX.out.drew.at' 1 _ rfl⟩) ?_
                replace HHx := Lib.hid (Hold.drew HHx.out)
                replace HX := Lib.hid HX.out.drew
                (try clear y0 y1 y2 y3)
                repeat (first | (refine seq_take (v := ?_) rfl ?_ ?_ ?_; rotate_left 1; rfl; (focus (intro wS hSw; obtain ⟨⟨k0, k1, k2, k3⟩, kx, ky⟩ := hSw; go_simp; first | done | with_reducible rfl)); (try simp only [Act.put, List.setIfInBounds_toArray, List.set_cons_zero, List.set_cons_succ])) | (refine seq_skip rfl ?_ ?_; rfl; (try simp only [Act.put, List.setIfInBounds_toArray, List.set_cons_zero, List.set_cons_succ])))
                refine seq_run rfl (fun K hK => ?_)
                go_simp
                (try rw [hj])
                go_at_call 23
                refine (cnum_at t s so d N nb j _ hlay Hnb.out (by omega)).mono ?_
                rintro r wn ⟨rfl, hbn⟩
                (try go_wp2_with fail)
                replace HHx := Lib.hid (Hold.later HHx.out hbn)
                replace HX := Lib.hid (HX.out.later hbn)
                clear hbn
                refine hK.out _ _ (⟨HA.out.later (Hold.below HHx.out) Hs.out, HX.out.at' 0 _ rfl, HX.out.at' 1 _ rfl⟩) (fun _ => ?_)
                (try simp only [Act.put, List.setIfInBounds_toArray, List.set_cons_zero, List.set_cons_succ])
                clear hK K
                repeat (first | (refine seq_take (v := ?_) rfl ?_ ?_ ?_; rotate_left 1; rfl; (focus (intro wS hSw; obtain ⟨⟨k0, k1, k2, k3⟩, kx, ky⟩ := hSw; go_simp; first | done | with_reducible rfl)); (try simp only [Act.put, List.setIfInBounds_toArray, List.set_cons_zero, List.set_cons_succ])) | (refine seq_skip rfl ?_ ?_; rfl; (try simp only [Act.put, List.setIfInBounds_toArray, List.set_cons_zero, List.set_cons_succ])))
                refine seq_run rfl (fun K hK => ?_)
                go_simp
                go_at_call 22
                refine (store_in W.heap.size _ p' c' _ _ _ (-1) (nb + j) _ x (Hold.has HHx.out 1 _ rfl) (getD_pu (by have := HC.out; have := HM.out; have := Hnb.out; omega)) (Hold.size HHx.out) (by have := HL.out; omega) z0 z1).mono ?_
                rintro r wm ⟨rfl, v'2, hTm⟩
                (try go_wp2_with fail)
                replace HX := Lib.hid (HX.out.keep hTm.keep (fun hf => HFt.out _ (.inr hf) rfl))
                replace HHx := Lib.hid (Hold.mem HHx.out 1 rfl hTm)
                clear hTm
                refine hK.out _ _ (⟨HA.out.later (Hold.below HHx.out) Hs.out, HX.out.at' 0 _ rfl, HX.out.at' 1 _ rfl⟩) (fun _ => ?_)
                (try simp only [Act.put, List.setIfInBounds_toArray, List.set_cons_zero, List.set_cons_succ])
                clear hK K
                refine seq_done ?_
                go_wp2_with fail
                go_meet
                exact ⟨1073741824, v2, v'2, _, _, rfl, by decide, by decide, HHx, List.length_set, by show _ ≤ _; simp⟩
              · go_wp2_with fail
                generalize wr.alloc (.cells #[.int .i64 th, .int .u64 x, .bool true, .int .i64 ti] 43) = wa at HHx HX ⊢
                generalize wr.heap.size = bx at HX HFt ⊢
                clear hx0 hx1 hx2 hx3 hal
                go_wp2_with fail
                refine wp_region_seqS ((fun w' => AtC w' cb t s so d ∧ w'.cell? ⟨bx, 0, none⟩ = some (.int .i64 th) ∧ w'.cell? ⟨bx, 1, none⟩ = some (.int .u64 x))) ((0, true) :: (1, true) :: (2, true) :: (3, true) :: (4, true) :: (5, true) :: (6, true) :: (7, true) :: (9, true) :: (10, true) :: (8, false) :: (11, false) :: []) (by kernel_rfl) (by kernel_rfl) (by kernel_rfl) (by decide) (fun _ _ _ _ _ h => h) (⟨HA.out.later (Hold.below (Hold.drew HHx.out)) Hs.out, HX.out.drew.at' 0 _ rfl, HX.out.drew.at' 1 _ rfl⟩) ?_
                replace HHx := Lib.hid (Hold.drew HHx.out)
                replace HX := Lib.hid HX.out.drew
                (try clear y0 y1 y2 y3)
                repeat (first | (refine seq_take (v := ?_) rfl ?_ ?_ ?_; rotate_left 1; rfl; (focus (intro wS hSw; obtain ⟨⟨k0, k1, k2, k3⟩, kx, ky⟩ := hSw; go_simp; first | done | with_reducible rfl)); (try simp only [Act.put, List.setIfInBounds_toArray, List.set_cons_zero, List.set_cons_succ])) | (refine seq_skip rfl ?_ ?_; rfl; (try simp only [Act.put, List.setIfInBounds_toArray, List.set_cons_zero, List.set_cons_succ])))
                refine seq_run rfl (fun K hK => ?_)
                go_simp
                (try rw [hj])
                go_at_call 23
                refine (cnum_at t s so d N nb j _ hlay Hnb.out (by omega)).mono ?_
                rintro r wn ⟨rfl, hbn⟩
                (try go_wp2_with fail)
                replace HHx := Lib.hid (Hold.later HHx.out hbn)
                replace HX := Lib.hid (HX.out.later hbn)
                clear hbn
                refine hK.out _ _ (⟨HA.out.later (Hold.below HHx.out) Hs.out, HX.out.at' 0 _ rfl, HX.out.at' 1 _ rfl⟩) (fun _ => ?_)
                (try simp only [Act.put, List.setIfInBounds_toArray, List.set_cons_zero, List.set_cons_succ])
                clear hK K
                repeat (first | (refine seq_take (v := ?_) rfl ?_ ?_ ?_; rotate_left 1; rfl; (focus (intro wS hSw; obtain ⟨⟨k0, k1, k2, k3⟩, kx, ky⟩ := hSw; go_simp; first | done | with_reducible rfl)); (try simp only [Act.put, List.setIfInBounds_toArray, List.set_cons_zero, List.set_cons_succ])) | (refine seq_skip rfl ?_ ?_; rfl; (try simp only [Act.put, List.setIfInBounds_toArray, List.set_cons_zero, List.set_cons_succ])))
                refine seq_run rfl (fun K hK => ?_)
                go_simp
                go_at_call 22
                refine (store_in W.heap.size _ p c _ _ _ (-1) (nb + j) _ x (Hold.has HHx.out 0 _ rfl) (getD_pu (by have := HC.out; have := HM.out; have := Hnb.out; omega)) (Hold.size HHx.out) (by have := HL.out; omega) z0 z1).mono ?_
                rintro r wm ⟨rfl, v2, hTm⟩
                (try go_wp2_with fail)
                replace HX := Lib.hid (HX.out.keep hTm.keep (fun hf => HFt.out _ (.inl hf) rfl))
                replace HHx := Lib.hid (Hold.mem HHx.out 0 rfl hTm)
                clear hTm
                refine hK.out _ _ (⟨HA.out.later (Hold.below HHx.out) Hs.out, HX.out.at' 0 _ rfl, HX.out.at' 1 _ rfl⟩) (fun _ => ?_)
                (try simp only [Act.put, List.setIfInBounds_toArray, List.set_cons_zero, List.set_cons_succ])
                clear hK K
                refine seq_done ?_
                have y0 := HX.out.at' 2 _ rfl
                have y1 := HX.out.at' 3 _ rfl
                clear y0 y1
                go_wp2_with fail
                refine wp_region_seqS ((fun w' => AtC w' cb t s so d ∧ w'.cell? ⟨bx, 0, none⟩ = some (.int .i64 th) ∧ w'.cell? ⟨bx, 1, none⟩ = some (.int .u64 x))) ((0, true) :: (1, true) :: (2, true) :: (3, true) :: (4, true) :: (5, true) :: (6, true) :: (7, true) :: (9, true) :: (10, true) :: (8, false) :: (11, false) :: []) (by kernel_rfl) (by kernel_rfl) (by kernel_rfl) (by decide) (fun _ _ _ _ _ h => h) (⟨HA.out.later (Hold.below (Hold.drew HHx.out)) Hs.out, HX.out.drew.at' 0 _ rfl, HX.out.drew.at' 1 _ rfl⟩) ?_
                replace HHx := Lib.hid (Hold.drew HHx.out)
                replace HX := Lib.hid HX.out.drew
                (try clear y0 y1 y2 y3)
                repeat (first | (refine seq_take (v := ?_) rfl ?_ ?_ ?_; rotate_left 1; rfl; (focus (intro wS hSw; obtain ⟨⟨k0, k1, k2, k3⟩, kx, ky⟩ := hSw; go_simp; first | done | with_reducible rfl)); (try simp only [Act.put, List.setIfInBounds_toArray, List.set_cons_zero, List.set_cons_succ])) | (refine seq_skip rfl ?_ ?_; rfl; (try simp only [Act.put, List.setIfInBounds_toArray, List.set_cons_zero, List.set_cons_succ])))
                refine seq_run rfl (fun K hK => ?_)
                go_simp
                (try rw [hj])
                go_at_call 23
                refine (cnum_at t s so d N nb j _ hlay Hnb.out (by omega)).mono ?_
                rintro r wn ⟨rfl, hbn⟩
                (try go_wp2_with fail)
                replace HHx := Lib.hid (Hold.later HHx.out hbn)
                replace HX := Lib.hid (HX.out.later hbn)
                clear hbn
                refine hK.out _ _ (⟨HA.out.later (Hold.below HHx.out) Hs.out, HX.out.at' 0 _ rfl, HX.out.at' 1 _ rfl⟩) (fun _ => ?_)
                (try simp only [Act.put, List.setIfInBounds_toArray, List.set_cons_zero, List.set_cons_succ])
                clear hK K
                repeat (first | (refine seq_take (v := ?_) rfl ?_ ?_ ?_; rotate_left 1; rfl; (focus (intro wS hSw; obtain ⟨⟨k0, k1, k2, k3⟩, kx, ky⟩ := hSw; go_simp; first | done | with_reducible rfl)); (try simp only [Act.put, List.setIfInBounds_toArray, List.set_cons_zero, List.set_cons_succ])) | (refine seq_skip rfl ?_ ?_; rfl; (try simp only [Act.put, List.setIfInBounds_toArray, List.set_cons_zero, List.set_cons_succ])))
                refine seq_run rfl (fun K hK => ?_)
                go_simp
                go_at_call 22
                refine (store_in W.heap.size _ p' c' _ _ _ (-1) (nb + j) _ x (Hold.has HHx.out 1 _ rfl) (getD_pu (by have := HC.out; have := HM.out; have := Hnb.out; omega)) (Hold.size HHx.out) (by have := HL.out; omega) z0 z1).mono ?_
                rintro r wm ⟨rfl, v'2, hTm⟩
                (try go_wp2_with fail)
                replace HX := Lib.hid (HX.out.keep hTm.keep (fun hf => HFt.out _ (.inr hf) rfl))
                replace HHx := Lib.hid (Hold.mem HHx.out 1 rfl hTm)
                clear hTm
                refine hK.out _ _ (⟨HA.out.later (Hold.below HHx.out) Hs.out, HX.out.at' 0 _ rfl, HX.out.at' 1 _ rfl⟩) (fun _ => ?_)
                (try simp only [Act.put, List.setIfInBounds_toArray, List.set_cons_zero, List.set_cons_succ])
                clear hK K
                refine seq_done ?_
                go_wp2_with fail
                go_meet
                exact ⟨tm + u4, v2, v'2, _, _, rfl, by omega, hT, HHx, List.length_set, by show _ ≤ _; simp⟩
        · have hlt9' : ¬ (n : Int) < (len9 : Int) := by omega
          go_wp2_with fail
          go_meet
          exact ⟨tm, v, v', C, L, rfl, tm0, tm1, HH, rfl, Nat.le_succ _⟩
      case rest =>
        clear HH
        obtain ⟨tm', v2, v2', C', L', rfl, tn0, tn1, HH, HC', HL'⟩ := hcut
        replace HK := Lib.hid (HK.out.cells HC'.out)
        have HLn : Hid (L'.length ≤ 40 + 2 * n + 1) := by have := HL.out; have := HL'.out; show _ ≤ _; omega
        replace HC : Hid (C'.length = M) := HC'.out.trans HC.out
        replace HL : Hid (L'.length ≤ 110) := by have := HLn.out; show _ ≤ _; omega
        clear HC' HL' tm0 tm1
        have HNN : Hid (∀ i, 0 ≤ C'.getD i 0) := (Hold.has HH.out 0 _ rfl : IsMem W.heap.size wc p c v2 C' L').nn
        generalize C' = C at *
        generalize L' = L at *
        generalize v2 = v at *
        generalize v2' = v' at *
        obtain ⟨tm, rfl⟩ : ∃ x, x = tm' := ⟨_, rfl⟩
        obtain ⟨tm0, tm1⟩ : 0 ≤ tm ∧ tm ≤ 1073741824 := ⟨tn0, tn1⟩
        clear tn0 tn1
        obtain rfl := HSD.out
        obtain rfl := HKP.out
        go_step
        go_step
        go_cut [28, 29] (fun s28 s29 wx => ∃ (vn : Value), s28 = .int .i64 (k.step m nb hz C tm).ph ∧ s29 = .bool (decide ((k.step m nb hz C tm).next = 3)) ∧ Hid (Hold W wx (twoL W.heap.size p c p' c' v vn C (k.cells N nb C tm) L (L ++ k.ev N nb hz C tm) b b1 b2 ba bt k (k.step m nb hz C tm).cl (k.step m nb hz C tm).tk)))
        case first =>
          by_cases hp : k.ph ≠ 0
          · skip
            as_aux_lemma =>
              have qph : (k.ph != 0) = true := by simp [hp]
              obtain ⟨e1, e2, e3⟩ := two_rest (N := N) (m := m) (nb := nb) (hz := hz) (C := C) (now := tm) hp
              have E1 := Lib.hid e1
              have E2 := Lib.hid e2
              have E3 := Lib.hid e3
              clear e1 e2 e3 hp
              go_wp2_with fail
              go_meet
              rw [E1.out, E2.out, E3.out, List.append_nil]
              exact ⟨v', rfl, rfl, HH⟩
          · have hp0 : k.ph = 0 := Classical.not_not.1 hp
            rcases HK.out.at' hp0 with ⟨hn, hc, ht⟩ | ⟨hn, hc, ht⟩ | ⟨hn, hc, ht⟩ | ⟨hn, hc, ht⟩
            · clear hp
              have hp := hp0
              as_aux_lemma =>
                obtain ⟨e1, e2, e3, e4, e5, e6⟩ := two_find (N := N) (m := m) (nb := nb) (hz := hz) (C := C) (now := tm) hp hn
                have hst : decide (k.next = 3) = false := decide_eq_false (by omega)
                have hst' : decide ((k.step m nb hz C tm).next = 3) = false := decide_eq_false e6
                have E1 := Lib.hid e1
                have E2 := Lib.hid e2
                have E3 := Lib.hid e3
                have E4 := Lib.hid e4
                have E5 := Lib.hid e5
                have E6 := Lib.hid hst'
                rw [hp, hst]
                have HS1 := Lib.hid (two_claim HH.out HK.out.cl (by have := HL.out; omega))
                have HCP := Lib.hid hc
                clear e1 e2 e3 e4 e5 e6 hst hst' hp hn hc ht
                go_wp2_with fail
                refine (clphase_at 0 HCP.out (Hold.has HH.out 3 _ rfl).1).mono ?_
                rintro r wn ⟨rfl, hbn⟩
                have HH1 := Lib.hid (Hold.later HH.out hbn)
                clear hbn HS1
                go_wp2_with fail
                refine (two_claim HH1.out HK.out.cl (by have := HL.out; omega)).mono ?_
                rintro r wm ⟨rfl, vn, hHn⟩
                have HH2 := Lib.hid hHn
                clear hHn
                by_cases h2 : (k.cl.step m hz C).ph = 2
                · have q2 : ((k.cl.step m hz C).ph == 2) = true := by simp [h2]
                  have E7 := Lib.hid h2
                  clear h2
                  go_wp2_with fail
                  go_meet
                  rw [E1.out, E2.out, E3.out, E4.out, E5.out, E6.out, if_pos E7.out]
                  exact ⟨vn, rfl, rfl, HH2⟩
                · have q2 : ((k.cl.step m hz C).ph == 2) = false := by simp [h2]
                  have E7 := Lib.hid h2
                  clear h2
                  go_wp2_with fail
                  go_meet
                  rw [E1.out, E2.out, E3.out, E4.out, E5.out, E6.out, if_neg E7.out]
                  exact ⟨vn, rfl, rfl, HH2⟩
            · clear hp
              have hp := hp0
              as_aux_lemma =>
                obtain ⟨e1, e2, e3, e4, e5, e6⟩ := two_date (N := N) (m := m) (nb := nb) (hz := hz) (C := C) (now := tm) hp hn
                have hst : decide (k.next = 3) = false := decide_eq_false (by omega)
                have hst' : decide ((k.step m nb hz C tm).next = 3) = false := decide_eq_false e6
                have E1 := Lib.hid e1
                have E2 := Lib.hid e2
                have E3 := Lib.hid e3
                have E4 := Lib.hid e4
                have E5 := Lib.hid e5
                have E6 := Lib.hid hst'
                rw [hp, hst]
                have HCP := Lib.hid hc
                have HTP := Lib.hid ht
                clear e1 e2 e3 e4 e5 e6 hst hst' hp hn hc ht
                go_wp2_with fail
                refine (clphase_at 1 HCP.out (Hold.has HH.out 3 _ rfl).1).mono ?_
                rintro r wn ⟨rfl, hbn⟩
                have HH1 := Lib.hid (Hold.later HH.out hbn)
                clear hbn
                go_wp2_with fail
                refine (tkphase_at 0 HTP.out (Hold.has HH1.out 4 _ rfl).1).mono ?_
                rintro r wn2 ⟨rfl, hbn⟩
                have HH2 := Lib.hid (Hold.later HH1.out hbn)
                clear hbn
                go_wp2_with fail
                refine (two_tick (now := tm) HH2.out HK.out.tk tm0 (by have := HL.out; omega)).mono ?_
                rintro r wm ⟨rfl, vn, hHn⟩
                have HH3 := Lib.hid hHn
                clear hHn
                by_cases h2 : (stp nb k.tk C tm).1.ph = 2
                · have q2 : ((stp nb k.tk C tm).1.ph == 2) = true := by simp [h2]
                  have E7 := Lib.hid h2
                  clear h2
                  go_wp2_with fail
                  go_meet
                  rw [E1.out, E2.out, E3.out, E4.out, E5.out, E6.out, if_pos E7.out]
                  exact ⟨vn, rfl, rfl, HH3⟩
                · have q2 : ((stp nb k.tk C tm).1.ph == 2) = false := by simp [h2]
                  have E7 := Lib.hid h2
                  clear h2
                  go_wp2_with fail
                  go_meet
                  rw [E1.out, E2.out, E3.out, E4.out, E5.out, E6.out, if_neg E7.out]
                  exact ⟨vn, rfl, rfl, HH3⟩
            · clear hp
              have hp := hp0
              as_aux_lemma =>
                obtain ⟨e1, e3, e4⟩ := two_fill (N := N) (m := m) (nb := nb) (hz := hz) (C := C) (now := tm) hp hn
                have hst : decide (k.next = 3) = false := decide_eq_false (by omega)
                have E1 := Lib.hid e1
                have E3 := Lib.hid e3
                have E4 := Lib.hid e4
                rw [hp, hst]
                have hkp : ({ k with next := 3 } : Pu).ph = 0 := hp
                have hs0 := HK.out.cl.s0; have hs1 := HK.out.cl.s1; have hm0 := HK.out.cl.m0; have hm1 := HK.out.cl.m1; have hll := HK.out.cl.len; have hn1 := HK.out.cl.lay.t1
                obtain ⟨j, hj⟩ : ∃ j : Nat, k.cl.slot.toNat = j := ⟨_, rfl⟩
                have hjs : k.cl.slot = (j : Int) := by omega
                have hjN : j < N := by omega
                have HGE : Hid (C[N + j]? = some (C.getD (N + j) 0)) := getD_pu (by omega)
                have HJ0 := Lib.hid hj
                have HCP := Lib.hid hc
                have HTP := Lib.hid ht
                have HJS := Lib.hid hjs
                have HW : Hid (k.who = who) := HSM.out.who
                have HV : Hid (k.value = a8) := HSM.out.value
                have HV0 := Lib.hid HK.out.v0
                have HV1 := Lib.hid HK.out.v1
                clear e1 e3 e4 hst hp hn hc ht hs0 hs1 hm0 hm1 hll hn1 hj hjs
                go_wp2_with fail
                refine (clphase_at 1 HCP.out (Hold.has HH.out 3 _ rfl).1).mono ?_
                rintro r wn ⟨rfl, hbn⟩
                replace HH := Lib.hid (Hold.later HH.out hbn)
                clear hbn
                go_wp2_with fail
                refine (tkphase_at 1 HTP.out (Hold.has HH.out 4 _ rfl).1).mono ?_
                rintro r wn2 ⟨rfl, hbn⟩
                replace HH := Lib.hid (Hold.later HH.out hbn)
                clear hbn
                go_wp2_with fail
                refine wp_region_seqS ((fun w' => AtC w' cb t s so d)) ((0, true) :: (1, true) :: (2, true) :: (3, true) :: (6, true) :: (4, false) :: (5, false) :: (7, false) :: []) (by kernel_rfl) (by kernel_rfl) (by kernel_rfl) (by decide) (fun _ _ _ _ _ h => h) (HA.out.later (Hold.below (Hold.drew HH.out)) Hs.out) ?_
                replace HH := Lib.hid (Hold.drew HH.out)
                repeat (first | (refine seq_take (v := ?_) rfl ?_ ?_ ?_; rotate_left 1; rfl; (focus (intro wS hSw; obtain ⟨k0, k1, k2, k3⟩ := hSw; go_simp; first | done | with_reducible rfl)); (try simp only [Act.put, List.setIfInBounds_toArray, List.set_cons_zero, List.set_cons_succ])) | (refine seq_skip rfl ?_ ?_; rfl; (try simp only [Act.put, List.setIfInBounds_toArray, List.set_cons_zero, List.set_cons_succ])))
                refine seq_run rfl (fun K hK => ?_)
                go_simp
                go_at_call 29
                refine (clslot_at (j : Int) HJS.out (Hold.has HH.out 3 _ rfl).1).mono ?_
                rintro r wn ⟨rfl, hbn⟩
                (try go_wp2_with fail)
                replace HH := Lib.hid (Hold.later HH.out hbn)
                clear hbn
                refine hK.out _ _ (HA.out.later (Hold.below HH.out) Hs.out) (fun _ => ?_)
                (try simp only [Act.put, List.setIfInBounds_toArray, List.set_cons_zero, List.set_cons_succ])
                clear hK K
                repeat (first | (refine seq_take (v := ?_) rfl ?_ ?_ ?_; rotate_left 1; rfl; (focus (intro wS hSw; obtain ⟨k0, k1, k2, k3⟩ := hSw; go_simp; first | done | with_reducible rfl)); (try simp only [Act.put, List.setIfInBounds_toArray, List.set_cons_zero, List.set_cons_succ])) | (refine seq_skip rfl ?_ ?_; rfl; (try simp only [Act.put, List.setIfInBounds_toArray, List.set_cons_zero, List.set_cons_succ])))
                refine seq_run rfl (fun K hK => ?_)
                go_simp
                go_at_call 28
                refine (pvalue_at t s so d N _ (N + j) _ hlay (by omega) (by omega) (by omega)).mono ?_
                rintro r wn ⟨rfl, hbn⟩
                (try go_wp2_with fail)
                replace HH := Lib.hid (Hold.later HH.out hbn)
                clear hbn
                refine hK.out _ _ (HA.out.later (Hold.below HH.out) Hs.out) (fun _ => ?_)
                (try simp only [Act.put, List.setIfInBounds_toArray, List.set_cons_zero, List.set_cons_succ])
                clear hK K
                repeat (first | (refine seq_take (v := ?_) rfl ?_ ?_ ?_; rotate_left 1; rfl; (focus (intro wS hSw; obtain ⟨k0, k1, k2, k3⟩ := hSw; go_simp; first | done | with_reducible rfl)); (try simp only [Act.put, List.setIfInBounds_toArray, List.set_cons_zero, List.set_cons_succ])) | (refine seq_skip rfl ?_ ?_; rfl; (try simp only [Act.put, List.setIfInBounds_toArray, List.set_cons_zero, List.set_cons_succ])))
                refine seq_run rfl (fun K hK => ?_)
                go_simp
                go_at_call 22
                refine (store_in W.heap.size _ p' c' _ _ _ who (N + j) _ a8 (Hold.has HH.out 1 _ rfl) HGE.out (Hold.size HH.out) (by have := HL.out; omega) (by have := HV.out; have := HV0.out; omega) (by have := HV.out; have := HV1.out; omega)).mono ?_
                rintro r wm ⟨rfl, vn, hTm⟩
                (try go_wp2_with fail)
                have HH2 := Lib.hid (Hold.mem HH.out 1 rfl hTm)
                clear hTm
                refine hK.out _ _ (HA.out.later (Hold.below HH2.out) Hs.out) (fun _ => ?_)
                (try simp only [Act.put, List.setIfInBounds_toArray, List.set_cons_zero, List.set_cons_succ])
                clear hK K
                refine seq_done ?_
                go_wp2_with fail
                go_meet
                have hh := HH2.out
                rw [← HW.out, ← HV.out] at hh
                rw [E1.out, E3.out, E4.out, HJ0.out]
                exact ⟨vn, by rw [hkp], rfl, Lib.hid hh⟩
            · clear hp
              have hp := hp0
              as_aux_lemma =>
                obtain ⟨e1, e3, e4⟩ := two_show (N := N) (m := m) (nb := nb) (hz := hz) (C := C) (now := tm) hp hn
                have hst : decide (k.next = 3) = true := decide_eq_true hn
                have hg := HK.out.wg (.inl hc)
                have hss := HK.out.st ht
                have hpk : 1 + 4 * en + 8 * (k.cl.wg + 1) + 65536 * k.tk.lo + 1099511627776 * k.tk.hi = k.pack := by have hke : k.e = en := HSM.out.e; unfold Pu.pack; rw [hke]
                have hpr : 0 ≤ k.pack ∧ k.pack ≤ 18446744073709551615 := by rw [← hpk]; omega
                have E1 := Lib.hid e1
                have E3 := Lib.hid e3
                have E4 := Lib.hid e4
                have HN3 := Lib.hid hn
                rw [hp, hst]
                have hs0 := HK.out.cl.s0; have hs1 := HK.out.cl.s1; have hm0 := HK.out.cl.m0; have hm1 := HK.out.cl.m1; have hll := HK.out.cl.len; have hn1 := HK.out.cl.lay.t1
                obtain ⟨j, hj⟩ : ∃ j : Nat, k.cl.slot.toNat = j := ⟨_, rfl⟩
                have hjs : k.cl.slot = (j : Int) := by omega
                have hjN : j < N := by omega
                have HGE : Hid (C[j]? = some (C.getD j 0)) := getD_pu (by omega)
                have HJ0 := Lib.hid hj
                have HCP := Lib.hid hc
                have HTP := Lib.hid ht
                have HJS := Lib.hid hjs
                have HW : Hid (k.who = who) := HSM.out.who
                have HPK := Lib.hid hpk
                have HPR := Lib.hid hpr
                have HRT : Hid (0 ≤ (1 : Int) ∧ (1 : Int) ≤ 2 ∧ 0 ≤ en ∧ en ≤ 1 ∧ 0 ≤ k.cl.wg + 1 ∧ k.cl.wg + 1 ≤ 8191 ∧ 0 ≤ k.tk.lo ∧ k.tk.lo ≤ 16777215 ∧ 0 ≤ k.tk.hi ∧ k.tk.hi ≤ 16777215) := by show _ ∧ _; omega
                have hwg : IntKind.i64.wrap (k.cl.wg + 1) = k.cl.wg + 1 := IntWalk.i64_in _ (by omega)
                clear e1 e3 e4 hst hp hn hc ht hs0 hs1 hm0 hm1 hll hn1 hj hjs hpk hpr hss
                go_wp2_with fail
                refine (clphase_at 1 HCP.out (Hold.has HH.out 3 _ rfl).1).mono ?_
                rintro r wn ⟨rfl, hbn⟩
                replace HH := Lib.hid (Hold.later HH.out hbn)
                clear hbn
                go_wp2_with fail
                refine (tkphase_at 1 HTP.out (Hold.has HH.out 4 _ rfl).1).mono ?_
                rintro r wn2 ⟨rfl, hbn⟩
                replace HH := Lib.hid (Hold.later HH.out hbn)
                clear hbn
                go_wp2_with fail
                refine (clword_any _ ba _ HCP.out (Hold.has HH.out 3 _ rfl).1).mono ?_
                rintro r wn ⟨rfl, hbn⟩
                replace HH := Lib.hid (Hold.later HH.out hbn)
                clear hbn
                have hbx := below_new (Below.refl wn.heap.size wn) (.cells #[.int .i64 k.cl.ws, .int .i64 k.cl.we, .int .i64 k.cl.wg, .int .i64 k.cl.wl, .int .i64 k.cl.wh] 54)
                have HWX : Hid (IsObj (wn.alloc (.cells #[.int .i64 k.cl.ws, .int .i64 k.cl.we, .int .i64 k.cl.wg, .int .i64 k.cl.wl, .int .i64 k.cl.wh] 54)) wn.heap.size [.int .i64 k.cl.ws, .int .i64 k.cl.we, .int .i64 k.cl.wg, .int .i64 k.cl.wl, .int .i64 k.cl.wh]) := IsObj.made wn [.int .i64 k.cl.ws, .int .i64 k.cl.we, .int .i64 k.cl.wg, .int .i64 k.cl.wl, .int .i64 k.cl.wh] 54
                replace HH := Lib.hid (Hold.later HH.out hbx)
                clear hbx
                go_wp2_with fail
                generalize wn.alloc (.cells #[.int .i64 k.cl.ws, .int .i64 k.cl.we, .int .i64 k.cl.wg, .int .i64 k.cl.wl, .int .i64 k.cl.wh] 54) = ww at HH HWX ⊢
                generalize wn.heap.size = bw at HWX ⊢
                have x2 := HWX.out.at' 2 _ rfl
                go_cut [34] (fun s34 wx => ∃ bn, s34 = .pointer (some ⟨bn, 0, none⟩) ∧ Hid (Hold W wx ((twoL W.heap.size p c p' c' v v' C C L L b b1 b2 ba bt k k.cl k.tk) ++ [tObj W.heap.size bn [.int .i64 1, .int .i64 en, .int .i64 (k.cl.wg + 1), .int .i64 k.tk.lo, .int .i64 k.tk.hi]])))
                case first =>
                  refine wp_region_seqT (fun w' => w'.cell? ⟨bw, 2, none⟩ = some (.int .i64 k.cl.wg)) (.take 0 (.take 1 (.take 2 (.take 3 (.take 4 (.two 5 (.take 6 (.one 7 (.one 8 .nil))) 7 (.one 5 (.take 6 (.one 8 .nil))))))))) (by kernel_rfl) (by kernel_rfl) (by kernel_rfl) (by decide) (fun _ _ _ _ _ h => h) (HWX.out.drew.at' 2 _ rfl) ?_
                  repeat (refine seqT_take (v := ?_) rfl ?_ ?_ ?_; rotate_left 1; rfl; (focus (intro wS hSw; have c2 := hSw; go_simp; first | done | with_reducible rfl)); (try simp only [Act.put, List.setIfInBounds_toArray, List.set_cons_zero, List.set_cons_succ]))
                  replace HH := Lib.hid (Hold.drew HH.out)
                  replace HWX := Lib.hid HWX.out.drew
                  clear x2
                  generalize ww.drew = ww0 at HH HWX ⊢
                  refine ⟨?_, ?_⟩
                  · refine runT rfl (fun K hK => ?_)
                    go_simp
                    go_at_call 31
                    refine (stamp_any _ bt _ (Hold.has HH.out 4 _ rfl).1).mono ?_
                    rintro r ww1 ⟨rfl, hb⟩
                    (try go_wp2_with fail)
                    replace HH := Lib.hid (Hold.later HH.out hb)
                    replace HWX := Lib.hid (HWX.out.later hb)
                    (try replace HNX := Lib.hid (HNX.out.later hb))
                    clear hb
                    refine hK.out _ _ (HWX.out.at' 2 _ rfl) (fun _ => ?_)
                    (try simp only [Act.put, List.setIfInBounds_toArray, List.set_cons_zero, List.set_cons_succ])
                    clear hK K
                    repeat (refine seqT_take (v := ?_) rfl ?_ ?_ ?_; rotate_left 1; rfl; (focus (intro wS hSw; have c2 := hSw; go_simp; first | done | with_reducible rfl)); (try simp only [Act.put, List.setIfInBounds_toArray, List.set_cons_zero, List.set_cons_succ]))
                    refine runT rfl (fun K hK => ?_)
                    go_simp
                    have hb := below_new (Below.refl ww1.heap.size ww1) (.cells #[.int .i64 0, .int .i64 0, .int .i64 0, .int .i64 0, .int .i64 0] 54)
                    have HNX : Hid (IsObj (ww1.alloc (.cells #[.int .i64 0, .int .i64 0, .int .i64 0, .int .i64 0, .int .i64 0] 54)) ww1.heap.size [.int .i64 0, .int .i64 0, .int .i64 0, .int .i64 0, .int .i64 0]) := IsObj.made ww1 [.int .i64 0, .int .i64 0, .int .i64 0, .int .i64 0, .int .i64 0] 54
                    have HNW : Hid (ww1.heap.size ≠ bw) := by have := HWX.out.lt; show _ ≠ _; omega
                    have HFB : Hid (Hold W (ww1.alloc (.cells #[.int .i64 0, .int .i64 0, .int .i64 0, .int .i64 0, .int .i64 0] 54)) ((twoL W.heap.size p c p' c' v v' C C L L b b1 b2 ba bt k k.cl k.tk) ++ [tObj W.heap.size ww1.heap.size [.int .i64 0, .int .i64 0, .int .i64 0, .int .i64 0, .int .i64 0]])) := Hold.more HH.out hb (tObj_ok _ _ _) ⟨HNX.out, Hold.size HH.out⟩ (fun q hq => by cases hq; exact Nat.le_refl _)
                    replace HWX := Lib.hid (HWX.out.later hb)
                    replace HH := HFB
                    clear HFB hb HNX
                    generalize ww1.alloc (.cells #[.int .i64 0, .int .i64 0, .int .i64 0, .int .i64 0, .int .i64 0] 54) = ww2 at HH HWX ⊢
                    generalize ww1.heap.size = bn at HH HNW ⊢
                    refine hK.out _ _ (HWX.out.at' 2 _ rfl) (fun _ => ?_)
                    (try simp only [Act.put, List.setIfInBounds_toArray, List.set_cons_zero, List.set_cons_succ])
                    clear hK K
                    refine runT rfl (fun K hK => ?_)
                    have hbn5 : IsObj ww2 bn [.int .i64 0, .int .i64 0, .int .i64 0, .int .i64 0, .int .i64 0] := (Hold.has HH.out 5 _ rfl).1
                    have q0 := hbn5.at' 0 _ rfl
                    have q1 := hbn5.at' 1 _ rfl
                    have q2 := hbn5.at' 2 _ rfl
                    have q3 := hbn5.at' 3 _ rfl
                    have q4 := hbn5.at' 4 _ rfl
                    have f0 := hbn5.fz 0
                    have f1 := hbn5.fz 1
                    have f2 := hbn5.fz 2
                    have f3 := hbn5.fz 3
                    have f4 := hbn5.fz 4
                    go_simp
                    clear q0 q1 q2 q3 q4 f0 f1 f2 f3 f4 hbn5
                    replace HH := Lib.hid (Hold.setBox HH.out 5 rfl 0 (.int .i64 1))
                    replace HWX := Lib.hid (HWX.out.other 0 (.int .i64 1) HNW.out)
                    replace HH := Lib.hid (Hold.setBox HH.out 5 rfl 1 (.int .i64 en))
                    replace HWX := Lib.hid (HWX.out.other 1 (.int .i64 en) HNW.out)
                    replace HH := Lib.hid (Hold.setBox HH.out 5 rfl 2 (.int .i64 (k.cl.wg + 1)))
                    replace HWX := Lib.hid (HWX.out.other 2 (.int .i64 (k.cl.wg + 1)) HNW.out)
                    replace HH := Lib.hid (Hold.setBox HH.out 5 rfl 3 (.int .i64 k.tk.lo))
                    replace HWX := Lib.hid (HWX.out.other 3 (.int .i64 k.tk.lo) HNW.out)
                    replace HH := Lib.hid (Hold.setBox HH.out 5 rfl 4 (.int .i64 k.tk.hi))
                    replace HWX := Lib.hid (HWX.out.other 4 (.int .i64 k.tk.hi) HNW.out)
                    replace HH : Hid (Hold W (((((ww2.setCell ⟨bn, 0, none⟩ (.int .i64 1)).setCell ⟨bn, 1, none⟩ (.int .i64 en)).setCell ⟨bn, 2, none⟩ (.int .i64 (k.cl.wg + 1))).setCell ⟨bn, 3, none⟩ (.int .i64 k.tk.lo)).setCell ⟨bn, 4, none⟩ (.int .i64 k.tk.hi)) ((twoL W.heap.size p c p' c' v v' C C L L b b1 b2 ba bt k k.cl k.tk) ++ [tObj W.heap.size bn [.int .i64 1, .int .i64 en, .int .i64 (k.cl.wg + 1), .int .i64 k.tk.lo, .int .i64 k.tk.hi]])) := HH.out
                    replace HWX : Hid (IsObj (((((ww2.setCell ⟨bn, 0, none⟩ (.int .i64 1)).setCell ⟨bn, 1, none⟩ (.int .i64 en)).setCell ⟨bn, 2, none⟩ (.int .i64 (k.cl.wg + 1))).setCell ⟨bn, 3, none⟩ (.int .i64 k.tk.lo)).setCell ⟨bn, 4, none⟩ (.int .i64 k.tk.hi)) bw [.int .i64 k.cl.ws, .int .i64 k.cl.we, .int .i64 k.cl.wg, .int .i64 k.cl.wl, .int .i64 k.cl.wh]) := HWX.out
                    generalize (((((ww2.setCell ⟨bn, 0, none⟩ (.int .i64 1)).setCell ⟨bn, 1, none⟩ (.int .i64 en)).setCell ⟨bn, 2, none⟩ (.int .i64 (k.cl.wg + 1))).setCell ⟨bn, 3, none⟩ (.int .i64 k.tk.lo)).setCell ⟨bn, 4, none⟩ (.int .i64 k.tk.hi)) = wz at HH HWX ⊢
                    refine hK.out _ _ (HWX.out.at' 2 _ rfl) (fun _ => ?_)
                    (try simp only [Act.put, List.setIfInBounds_toArray, List.set_cons_zero, List.set_cons_succ])
                    clear hK K
                    refine seqT_done ?_
                    go_wp2_with fail
                    go_meet
                    exact ⟨bn, rfl, HH⟩
                  · refine runT rfl (fun K hK => ?_)
                    go_simp
                    have hb := below_new (Below.refl ww0.heap.size ww0) (.cells #[.int .i64 0, .int .i64 0, .int .i64 0, .int .i64 0, .int .i64 0] 54)
                    have HNX : Hid (IsObj (ww0.alloc (.cells #[.int .i64 0, .int .i64 0, .int .i64 0, .int .i64 0, .int .i64 0] 54)) ww0.heap.size [.int .i64 0, .int .i64 0, .int .i64 0, .int .i64 0, .int .i64 0]) := IsObj.made ww0 [.int .i64 0, .int .i64 0, .int .i64 0, .int .i64 0, .int .i64 0] 54
                    have HNW : Hid (ww0.heap.size ≠ bw) := by have := HWX.out.lt; show _ ≠ _; omega
                    have HFB : Hid (Hold W (ww0.alloc (.cells #[.int .i64 0, .int .i64 0, .int .i64 0, .int .i64 0, .int .i64 0] 54)) ((twoL W.heap.size p c p' c' v v' C C L L b b1 b2 ba bt k k.cl k.tk) ++ [tObj W.heap.size ww0.heap.size [.int .i64 0, .int .i64 0, .int .i64 0, .int .i64 0, .int .i64 0]])) := Hold.more HH.out hb (tObj_ok _ _ _) ⟨HNX.out, Hold.size HH.out⟩ (fun q hq => by cases hq; exact Nat.le_refl _)
                    replace HWX := Lib.hid (HWX.out.later hb)
                    replace HH := HFB
                    clear HFB hb HNX
                    generalize ww0.alloc (.cells #[.int .i64 0, .int .i64 0, .int .i64 0, .int .i64 0, .int .i64 0] 54) = ww1 at HH HWX ⊢
                    generalize ww0.heap.size = bn at HH HNW ⊢
                    refine hK.out _ _ (HWX.out.at' 2 _ rfl) (fun _ => ?_)
                    (try simp only [Act.put, List.setIfInBounds_toArray, List.set_cons_zero, List.set_cons_succ])
                    clear hK K
                    refine runT rfl (fun K hK => ?_)
                    go_simp
                    go_at_call 31
                    refine (stamp_any _ bt _ (Hold.has HH.out 4 _ rfl).1).mono ?_
                    rintro r ww2 ⟨rfl, hb⟩
                    (try go_wp2_with fail)
                    replace HH := Lib.hid (Hold.later HH.out hb)
                    replace HWX := Lib.hid (HWX.out.later hb)
                    (try replace HNX := Lib.hid (HNX.out.later hb))
                    clear hb
                    refine hK.out _ _ (HWX.out.at' 2 _ rfl) (fun _ => ?_)
                    (try simp only [Act.put, List.setIfInBounds_toArray, List.set_cons_zero, List.set_cons_succ])
                    clear hK K
                    repeat (refine seqT_take (v := ?_) rfl ?_ ?_ ?_; rotate_left 1; rfl; (focus (intro wS hSw; have c2 := hSw; go_simp; first | done | with_reducible rfl)); (try simp only [Act.put, List.setIfInBounds_toArray, List.set_cons_zero, List.set_cons_succ]))
                    refine runT rfl (fun K hK => ?_)
                    have hbn5 : IsObj ww2 bn [.int .i64 0, .int .i64 0, .int .i64 0, .int .i64 0, .int .i64 0] := (Hold.has HH.out 5 _ rfl).1
                    have q0 := hbn5.at' 0 _ rfl
                    have q1 := hbn5.at' 1 _ rfl
                    have q2 := hbn5.at' 2 _ rfl
                    have q3 := hbn5.at' 3 _ rfl
                    have q4 := hbn5.at' 4 _ rfl
                    have f0 := hbn5.fz 0
                    have f1 := hbn5.fz 1
                    have f2 := hbn5.fz 2
                    have f3 := hbn5.fz 3
                    have f4 := hbn5.fz 4
                    go_simp
                    clear q0 q1 q2 q3 q4 f0 f1 f2 f3 f4 hbn5
                    replace HH := Lib.hid (Hold.setBox HH.out 5 rfl 0 (.int .i64 1))
                    replace HWX := Lib.hid (HWX.out.other 0 (.int .i64 1) HNW.out)
                    replace HH := Lib.hid (Hold.setBox HH.out 5 rfl 1 (.int .i64 en))
                    replace HWX := Lib.hid (HWX.out.other 1 (.int .i64 en) HNW.out)
                    replace HH := Lib.hid (Hold.setBox HH.out 5 rfl 2 (.int .i64 (k.cl.wg + 1)))
                    replace HWX := Lib.hid (HWX.out.other 2 (.int .i64 (k.cl.wg + 1)) HNW.out)
                    replace HH := Lib.hid (Hold.setBox HH.out 5 rfl 3 (.int .i64 k.tk.lo))
                    replace HWX := Lib.hid (HWX.out.other 3 (.int .i64 k.tk.lo) HNW.out)
                    replace HH := Lib.hid (Hold.setBox HH.out 5 rfl 4 (.int .i64 k.tk.hi))
                    replace HWX := Lib.hid (HWX.out.other 4 (.int .i64 k.tk.hi) HNW.out)
                    replace HH : Hid (Hold W (((((ww2.setCell ⟨bn, 0, none⟩ (.int .i64 1)).setCell ⟨bn, 1, none⟩ (.int .i64 en)).setCell ⟨bn, 2, none⟩ (.int .i64 (k.cl.wg + 1))).setCell ⟨bn, 3, none⟩ (.int .i64 k.tk.lo)).setCell ⟨bn, 4, none⟩ (.int .i64 k.tk.hi)) ((twoL W.heap.size p c p' c' v v' C C L L b b1 b2 ba bt k k.cl k.tk) ++ [tObj W.heap.size bn [.int .i64 1, .int .i64 en, .int .i64 (k.cl.wg + 1), .int .i64 k.tk.lo, .int .i64 k.tk.hi]])) := HH.out
                    replace HWX : Hid (IsObj (((((ww2.setCell ⟨bn, 0, none⟩ (.int .i64 1)).setCell ⟨bn, 1, none⟩ (.int .i64 en)).setCell ⟨bn, 2, none⟩ (.int .i64 (k.cl.wg + 1))).setCell ⟨bn, 3, none⟩ (.int .i64 k.tk.lo)).setCell ⟨bn, 4, none⟩ (.int .i64 k.tk.hi)) bw [.int .i64 k.cl.ws, .int .i64 k.cl.we, .int .i64 k.cl.wg, .int .i64 k.cl.wl, .int .i64 k.cl.wh]) := HWX.out
                    generalize (((((ww2.setCell ⟨bn, 0, none⟩ (.int .i64 1)).setCell ⟨bn, 1, none⟩ (.int .i64 en)).setCell ⟨bn, 2, none⟩ (.int .i64 (k.cl.wg + 1))).setCell ⟨bn, 3, none⟩ (.int .i64 k.tk.lo)).setCell ⟨bn, 4, none⟩ (.int .i64 k.tk.hi)) = wz at HH HWX ⊢
                    refine hK.out _ _ (HWX.out.at' 2 _ rfl) (fun _ => ?_)
                    (try simp only [Act.put, List.setIfInBounds_toArray, List.set_cons_zero, List.set_cons_succ])
                    clear hK K
                    refine seqT_done ?_
                    go_wp2_with fail
                    go_meet
                    exact ⟨bn, rfl, HH⟩
                case rest =>
                  obtain ⟨bn, rfl, HH⟩ := hcut
                  clear x2 hwg
                  have HNX : Hid (IsObj wc bn [.int .i64 1, .int .i64 en, .int .i64 (k.cl.wg + 1), .int .i64 k.tk.lo, .int .i64 k.tk.hi]) := (Hold.has HH.out 5 _ rfl).1
                  go_wp2_with fail
                  refine wp_region_seqS ((fun w' => AtC w' cb t s so d ∧ w'.cell? ⟨bn, 0, none⟩ = some (.int .i64 1) ∧ w'.cell? ⟨bn, 1, none⟩ = some (.int .i64 en) ∧ w'.cell? ⟨bn, 2, none⟩ = some (.int .i64 (k.cl.wg + 1)) ∧ w'.cell? ⟨bn, 3, none⟩ = some (.int .i64 k.tk.lo) ∧ w'.cell? ⟨bn, 4, none⟩ = some (.int .i64 k.tk.hi))) ((0, true) :: (1, true) :: (2, true) :: (3, true) :: (6, true) :: (4, false) :: (5, false) :: (7, false) :: (8, false) :: []) (by kernel_rfl) (by kernel_rfl) (by kernel_rfl) (by decide) (fun _ _ _ _ _ h => h) (⟨HA.out.later (Hold.below (Hold.drew HH.out)) Hs.out, HNX.out.drew.at' 0 _ rfl, HNX.out.drew.at' 1 _ rfl, HNX.out.drew.at' 2 _ rfl, HNX.out.drew.at' 3 _ rfl, HNX.out.drew.at' 4 _ rfl⟩) ?_
                  replace HH := Lib.hid (Hold.drew HH.out)
                  replace HNX := Lib.hid HNX.out.drew
                  repeat (first | (refine seq_take (v := ?_) rfl ?_ ?_ ?_; rotate_left 1; rfl; (focus (intro wS hSw; obtain ⟨⟨k0, k1, k2, k3⟩, d0, d1, d2, d3, d4⟩ := hSw; go_simp; first | done | with_reducible rfl)); (try simp only [Act.put, List.setIfInBounds_toArray, List.set_cons_zero, List.set_cons_succ])) | (refine seq_skip rfl ?_ ?_; rfl; (try simp only [Act.put, List.setIfInBounds_toArray, List.set_cons_zero, List.set_cons_succ])))
                  refine seq_run rfl (fun K hK => ?_)
                  go_simp
                  go_at_call 29
                  refine (clslot_at (j : Int) HJS.out (Hold.has HH.out 3 _ rfl).1).mono ?_
                  rintro r wq ⟨rfl, hbn⟩
                  (try go_wp2_with fail)
                  replace HH := Lib.hid (Hold.later HH.out hbn)
                  replace HNX := Lib.hid (HNX.out.later hbn)
                  clear hbn
                  refine hK.out _ _ (⟨HA.out.later (Hold.below HH.out) Hs.out, HNX.out.at' 0 _ rfl, HNX.out.at' 1 _ rfl, HNX.out.at' 2 _ rfl, HNX.out.at' 3 _ rfl, HNX.out.at' 4 _ rfl⟩) (fun _ => ?_)
                  (try simp only [Act.put, List.setIfInBounds_toArray, List.set_cons_zero, List.set_cons_succ])
                  clear hK K
                  repeat (first | (refine seq_take (v := ?_) rfl ?_ ?_ ?_; rotate_left 1; rfl; (focus (intro wS hSw; obtain ⟨⟨k0, k1, k2, k3⟩, d0, d1, d2, d3, d4⟩ := hSw; go_simp; first | done | with_reducible rfl)); (try simp only [Act.put, List.setIfInBounds_toArray, List.set_cons_zero, List.set_cons_succ])) | (refine seq_skip rfl ?_ ?_; rfl; (try simp only [Act.put, List.setIfInBounds_toArray, List.set_cons_zero, List.set_cons_succ])))
                  refine seq_run rfl (fun K hK => ?_)
                  go_simp
                  go_at_call 32
                  refine (pword_at t s so d _ j _ rfl).mono ?_
                  rintro r wq ⟨rfl, hbn⟩
                  (try go_wp2_with fail)
                  replace HH := Lib.hid (Hold.later HH.out hbn)
                  replace HNX := Lib.hid (HNX.out.later hbn)
                  clear hbn
                  refine hK.out _ _ (⟨HA.out.later (Hold.below HH.out) Hs.out, HNX.out.at' 0 _ rfl, HNX.out.at' 1 _ rfl, HNX.out.at' 2 _ rfl, HNX.out.at' 3 _ rfl, HNX.out.at' 4 _ rfl⟩) (fun _ => ?_)
                  (try simp only [Act.put, List.setIfInBounds_toArray, List.set_cons_zero, List.set_cons_succ])
                  clear hK K
                  repeat (first | (refine seq_take (v := ?_) rfl ?_ ?_ ?_; rotate_left 1; rfl; (focus (intro wS hSw; obtain ⟨⟨k0, k1, k2, k3⟩, d0, d1, d2, d3, d4⟩ := hSw; go_simp; first | done | with_reducible rfl)); (try simp only [Act.put, List.setIfInBounds_toArray, List.set_cons_zero, List.set_cons_succ])) | (refine seq_skip rfl ?_ ?_; rfl; (try simp only [Act.put, List.setIfInBounds_toArray, List.set_cons_zero, List.set_cons_succ])))
                  refine seq_run rfl (fun K hK => ?_)
                  go_simp
                  go_at_call 33
                  refine (pack_at 1 en (k.cl.wg + 1) k.tk.lo k.tk.hi k.pack _ HRT.out HPK.out).mono ?_
                  rintro r wq ⟨rfl, hbn⟩
                  (try go_wp2_with fail)
                  replace HH := Lib.hid (Hold.later HH.out hbn)
                  replace HNX := Lib.hid (HNX.out.later hbn)
                  clear hbn
                  refine hK.out _ _ (⟨HA.out.later (Hold.below HH.out) Hs.out, HNX.out.at' 0 _ rfl, HNX.out.at' 1 _ rfl, HNX.out.at' 2 _ rfl, HNX.out.at' 3 _ rfl, HNX.out.at' 4 _ rfl⟩) (fun _ => ?_)
                  (try simp only [Act.put, List.setIfInBounds_toArray, List.set_cons_zero, List.set_cons_succ])
                  clear hK K
                  repeat (first | (refine seq_take (v := ?_) rfl ?_ ?_ ?_; rotate_left 1; rfl; (focus (intro wS hSw; obtain ⟨⟨k0, k1, k2, k3⟩, d0, d1, d2, d3, d4⟩ := hSw; go_simp; first | done | with_reducible rfl)); (try simp only [Act.put, List.setIfInBounds_toArray, List.set_cons_zero, List.set_cons_succ])) | (refine seq_skip rfl ?_ ?_; rfl; (try simp only [Act.put, List.setIfInBounds_toArray, List.set_cons_zero, List.set_cons_succ])))
                  refine seq_run rfl (fun K hK => ?_)
                  go_simp
                  go_at_call 22
                  refine (store_in W.heap.size _ p' c' _ _ _ who j _ k.pack (Hold.has HH.out 1 _ rfl) HGE.out (Hold.size HH.out) (by have := HL.out; omega) HPR.out.1 HPR.out.2).mono ?_
                  rintro r wm ⟨rfl, vn, hTm⟩
                  (try go_wp2_with fail)
                  have HH2 := Lib.hid (Hold.mem HH.out 1 rfl hTm)
                  clear hTm
                  have HNX2 : Hid (IsObj wm bn [.int .i64 1, .int .i64 en, .int .i64 (k.cl.wg + 1), .int .i64 k.tk.lo, .int .i64 k.tk.hi]) := (Hold.has HH2.out 5 _ rfl).1
                  refine hK.out _ _ (⟨HA.out.later (Hold.below HH2.out) Hs.out, HNX2.out.at' 0 _ rfl, HNX2.out.at' 1 _ rfl, HNX2.out.at' 2 _ rfl, HNX2.out.at' 3 _ rfl, HNX2.out.at' 4 _ rfl⟩) (fun _ => ?_)
                  (try simp only [Act.put, List.setIfInBounds_toArray, List.set_cons_zero, List.set_cons_succ])
                  clear hK K
                  refine seq_done ?_
                  go_wp2_with fail
                  go_meet
                  have hh := Hold.less (l := [_, _, _, _, _]) (m := [_]) HH2.out
                  rw [← HW.out] at hh
                  rw [E1.out, E3.out, E4.out, HJ0.out]
                  exact ⟨vn, rfl, by show _ = Value.bool (decide (k.next = 3)); rw [HN3.out]; rfl, Lib.hid hh⟩
        case rest =>
          clear HH
          obtain ⟨vn0, rfl, rfl, HH⟩ := hcut
          as_aux_lemma =>
            obtain ⟨l2, hl2⟩ : ∃ l2 : Nat, (L ++ k.ev N nb hz C tm).length = l2 := ⟨_, rfl⟩
            have HL2 := Lib.hid hl2
            have hl2b : l2 ≤ 200 := by rw [← hl2, List.length_append]; have := HL.out; have := Pu.ev_le k N nb hz C tm; omega
            clear hl2
            go_wp2_with fail
            refine (two_put (now := tm) HH.out HK.out tm0 (by have := HL.out; omega)).mono ?_
            rintro r wm ⟨rfl, vn, hHn⟩
            have HH2 := Lib.hid hHn
            clear hHn HH
            have HK2 := Lib.hid ((HK.out.next_ (now := tm) tm0 HNN.out).1.cells (Pu.cells_len k N nb C tm))
            have HR2 : Hid ((k.step m nb hz C tm).ph = 0 → ((n + 1 : Nat) : Int) + (k.step m nb hz C tm).rem m ≤ (Q : Int)) := fun h0 => by
              by_cases hp : k.ph = 0
              · have h1 := (HK.out.next_ (now := tm) tm0 HNN.out).2 hp
                have h2 := HR.out hp
                omega
              · rw [show k.step m nb hz C tm = k from if_pos hp] at h0
                exact absurd h0 hp
            have HSM2 := Lib.hid (HSM.out.trans (Pu.step_same k m nb hz C tm))
            have HC2 : Hid ((k.cells N nb C tm).length = M) := by show _ = _; rw [Pu.cells_len]; exact HC.out
            have HL3 : Hid ((L ++ k.ev N nb hz C tm).length ≤ 40 + 2 * (n + 1)) := by have := HL.out; have := Pu.ev_le k N nb hz C tm; show _ ≤ _; rw [List.length_append]; have := HLn.out; omega
            generalize k.step m nb hz C tm = k' at *
            generalize k.cells N nb C tm = C' at *
            generalize L ++ k.ev N nb hz C tm = L' at *
            clear HK HSM HR HC HL HNN
            go_wp2_with fail
            refine (count_at W.heap.size _ p c _ _ _ l2 (Hold.has HH2.out 0 _ rfl) HL2.out).mono ?_
            rintro r wr3 ⟨rfl, rfl⟩
            go_wp2_with fail
            refine (count_at W.heap.size _ p' c' _ _ _ l2 (Hold.has HH2.out 1 _ rfl) HL2.out).mono ?_
            rintro r wr3 ⟨rfl, rfl⟩
            by_cases hp1 : k'.ph = 1
            · have q1 : (k'.ph == 1) = true := by simp [hp1]
              have q2 : (k'.ph != 1) = false := by simp [hp1]
              have hsl : (if k'.ph = 1 then k'.cl.slot else -1) = k'.cl.slot := if_pos hp1
              have HSL := Lib.hid hsl
              have HP1 := Lib.hid hp1
              obtain ⟨sl, hsl2⟩ : ∃ sl, k'.cl.slot = sl := ⟨_, rfl⟩
              obtain ⟨lo, hlo⟩ : ∃ lo, k'.tk.lo = lo := ⟨_, rfl⟩
              obtain ⟨hi, hhi⟩ : ∃ hi, k'.tk.hi = hi := ⟨_, rfl⟩
              have HS2 := Lib.hid hsl2
              have HLO := Lib.hid hlo
              have HHI := Lib.hid hhi
              clear hp1 hsl hsl2 hlo hhi
              go_wp2_with fail
              refine (puslot_at sl (HSL.out.trans HS2.out) (Hold.has HH2.out 2 _ rfl).1).mono ?_
              rintro r wr3 ⟨rfl, rfl⟩
              go_wp2_with fail
              refine (clslot_at sl HS2.out (Hold.has HH2.out 3 _ rfl).1).mono ?_
              rintro r wn ⟨rfl, hbn⟩
              replace HH2 := Lib.hid (Hold.later HH2.out hbn)
              clear hbn
              go_wp2_with fail
              refine (pustamp_at lo hi HP1.out HLO.out HHI.out (Hold.has HH2.out 2 _ rfl).1).mono ?_
              rintro r wn ⟨rfl, hbn⟩
              replace HH2 := Lib.hid (Hold.later HH2.out hbn)
              clear hbn
              go_wp2_with fail
              refine (tkstamp_at lo hi HLO.out HHI.out (Hold.has HH2.out 4 _ rfl).1).mono ?_
              rintro r wn ⟨rfl, hbn⟩
              replace HH2 := Lib.hid (Hold.later HH2.out hbn)
              clear hbn
              go_wp2_with fail
              go_roundw
              case rel => exact ⟨n + 1, tm, vn, _, _, _, k', by omega, by go_num, rfl, rfl, rfl, tm0, tm1, HH2, HK2, HSM2, HR2, HC2, HL3⟩
              case measure => first | omega | (simp [intOf]; done) | (simp [intOf]; omega)
            · have q1 : (k'.ph == 1) = false := by simp [hp1]
              have q2 : (k'.ph != 1) = true := by simp [hp1]
              have hsl : (if k'.ph = 1 then k'.cl.slot else -1) = -1 := if_neg hp1
              have hlo : (if k'.ph = 1 then k'.tk.lo else 0) = 0 := if_neg hp1
              have hhi : (if k'.ph = 1 then k'.tk.hi else 0) = 0 := if_neg hp1
              have HSL := Lib.hid hsl
              have HLO := Lib.hid hlo
              have HHI := Lib.hid hhi
              clear hp1 hsl hlo hhi
              go_wp2_with fail
              refine (puslot_at (-1) HSL.out (Hold.has HH2.out 2 _ rfl).1).mono ?_
              rintro r wr3 ⟨rfl, rfl⟩
              go_wp2_with fail
              refine (pustamp_any' _ b b1 b2 k' 0 0 (Hold.has HH2.out 2 _ rfl).1 HLO.out HHI.out).mono ?_
              rintro r wn ⟨rfl, hbn⟩
              replace HH2 := Lib.hid (Hold.later HH2.out hbn)
              clear hbn
              go_wp2_with fail
              go_roundw
              case rel => exact ⟨n + 1, tm, vn, _, _, _, k', by omega, by go_num, rfl, rfl, rfl, tm0, tm1, HH2, HK2, HSM2, HR2, HC2, HL3⟩
              case measure => first | omega | (simp [intOf]; done) | (simp [intOf]; omega)
    · have hlt' : ¬ (n : Int) < (Q : Int) + 2 := by omega
      have hnQ : n = Q + 2 := by omega
      obtain rfl := HKP.out
      as_aux_lemma =>
        have hp0 : k.ph ≠ 0 := fun h0 => by
          have h1 := HR.out h0
          have h2 := Pu.rem_pos HK.out h0
          omega
        have qph : (k.ph != 0) = true := by simp [hp0]
        have hLn : L.length ≤ 200 := by have := HL.out; omega
        obtain ⟨l, hl⟩ : ∃ l : Nat, L.length = l := ⟨_, rfl⟩
        have HLl := Lib.hid hl
        have hl200 : l ≤ 200 := by omega
        clear hp0 HR HK HSM HC hl
        go_wp2_with fail
        refine (log_any W.heap.size _ p c _ _ L (Hold.has HH.out 0 _ rfl) (by omega)).mono ?_
        rintro r w5 ⟨lv, rfl, hrow, hb5⟩
        replace HH := Lib.hid (Hold.later HH.out hb5)
        clear hb5
        obtain ⟨A1, cap1, rfl⟩ := own_shape hrow
        have HA1 := Lib.hid (fun hne => AtE.row hrow hne)
        have HC1 : Hid (L.length ≤ cap1) := by
          rcases hrow.2 with ⟨hv, h0⟩ | ⟨g, cap', cur, hv, _, _, hnc, _⟩
          · show _ ≤ _; omega
          · cases hv; exact hnc
        clear hrow
        go_wp2_with fail
        refine (log_any W.heap.size _ p' c' _ _ L (Hold.has HH.out 1 _ rfl) (by omega)).mono ?_
        rintro r w6 ⟨lv, rfl, hrow, hb6⟩
        have HB6 := Lib.hid hb6
        replace HH := Lib.hid (Hold.later HH.out hb6)
        clear hb6
        obtain ⟨A2, cap2, rfl⟩ := own_shape hrow
        have HA2 := Lib.hid (fun hne => AtE.row hrow hne)
        have HC2 : Hid (L.length ≤ cap2) := by
          rcases hrow.2 with ⟨hv, h0⟩ | ⟨g, cap', cur, hv, _, _, hnc, _⟩
          · show _ ≤ _; omega
          · cases hv; exact hnc
        clear hrow
        rw [HLl.out]
        have HW6 := Lib.hid (Below.refl w6.heap.size w6)
        go_wp2_with fail
        go_loopw [229] (fun i wr => ∃ j : Nat, j ≤ l ∧ i = .int .i64 j ∧ Hid (Below w6.heap.size w6 wr)) (fun i _ => l - (intOf i).toNat)
        case atStart => exact ⟨0, by omega, rfl, HW6⟩
        case round =>
          clear HW6
          obtain ⟨j, hj, rfl, HW6⟩ := hrel
          rcases Nat.lt_or_ge j l with hjl | hjl
          · have hjl' : (j : Int) < (l : Int) := by omega
            have hne : L ≠ [] := fun h => by have := HLl.out; rw [h] at this; simp at this; omega
            obtain ⟨g1, o1, rfl, hg1, hc1⟩ := HA1.out hne
            obtain ⟨g2, o2, rfl, hg2, hc2⟩ := HA2.out hne
            obtain ⟨e, he⟩ : ∃ e : Ev, L[j]? = some e := ⟨_, List.getElem?_eq_getElem (by rw [HLl.out]; exact hjl)⟩
            obtain ⟨x0, x1, x2, x3, x4, x5⟩ := hc1 j e he
            obtain ⟨y0, y1, y2, y3, y4, y5⟩ := hc2 j e he
            have hbb : Below w5.heap.size w5 wr := below_step' HB6.out HW6.out HB6.out.size
            replace x0 := (hbb.cell (p := ⟨g1, _, none⟩) hg1).trans x0
            replace x1 := (hbb.cell (p := ⟨g1, _, none⟩) hg1).trans x1
            replace x2 := (hbb.cell (p := ⟨g1, _, none⟩) hg1).trans x2
            replace x3 := (hbb.cell (p := ⟨g1, _, none⟩) hg1).trans x3
            replace x4 := (hbb.cell (p := ⟨g1, _, none⟩) hg1).trans x4
            replace x5 := (hbb.cell (p := ⟨g1, _, none⟩) hg1).trans x5
            replace y0 := (HW6.out.cell (p := ⟨g2, _, none⟩) hg2).trans y0
            replace y1 := (HW6.out.cell (p := ⟨g2, _, none⟩) hg2).trans y1
            replace y2 := (HW6.out.cell (p := ⟨g2, _, none⟩) hg2).trans y2
            replace y3 := (HW6.out.cell (p := ⟨g2, _, none⟩) hg2).trans y3
            replace y4 := (HW6.out.cell (p := ⟨g2, _, none⟩) hg2).trans y4
            replace y5 := (HW6.out.cell (p := ⟨g2, _, none⟩) hg2).trans y5
            obtain ⟨ewho, eop, ecell, eold, enew, eok⟩ := e
            simp only at x0 x1 x2 x3 x4 x5 y0 y1 y2 y3 y4 y5
            have hc1' := HC1.out
            have hc2' := HC2.out
            rw [HLl.out] at hc1' hc2'
            clear hc1 hc2 he hbb hne
            go_wp2_with fail
            refine wp_region_seqS ((fun w' => (w'.cell? ⟨g1, o1 + j * 6, none⟩ = some (.int .i64 ewho) ∧ w'.cell? ⟨g1, o1 + j * 6 + 1, none⟩ = some (.int .i64 eop) ∧ w'.cell? ⟨g1, o1 + j * 6 + 2, none⟩ = some (.int .i64 ecell) ∧ w'.cell? ⟨g1, o1 + j * 6 + 3, none⟩ = some (.int .u64 eold) ∧ w'.cell? ⟨g1, o1 + j * 6 + 4, none⟩ = some (.int .u64 enew) ∧ w'.cell? ⟨g1, o1 + j * 6 + 5, none⟩ = some (.bool eok)) ∧ (w'.cell? ⟨g2, o2 + j * 6, none⟩ = some (.int .i64 ewho) ∧ w'.cell? ⟨g2, o2 + j * 6 + 1, none⟩ = some (.int .i64 eop) ∧ w'.cell? ⟨g2, o2 + j * 6 + 2, none⟩ = some (.int .i64 ecell) ∧ w'.cell? ⟨g2, o2 + j * 6 + 3, none⟩ = some (.int .u64 eold) ∧ w'.cell? ⟨g2, o2 + j * 6 + 4, none⟩ = some (.int .u64 enew) ∧ w'.cell? ⟨g2, o2 + j * 6 + 5, none⟩ = some (.bool eok)))) ((0, true) :: (1, true) :: (2, true) :: (3, true) :: (4, true) :: (5, true) :: (6, true) :: (7, true) :: (8, true) :: []) (by kernel_rfl) (by kernel_rfl) (by kernel_rfl) (by decide) (fun _ _ _ _ _ h => h) (⟨⟨x0, x1, x2, x3, x4, x5⟩, y0, y1, y2, y3, y4, y5⟩) ?_
            have HW7 : Hid (Below w6.heap.size w6 wr.drew) := HW6.out.drew
            clear x0 x1 x2 x3 x4 x5 y0 y1 y2 y3 y4 y5
            repeat (first | (refine seq_take (v := ?_) rfl ?_ ?_ ?_; rotate_left 1; rfl; (focus (intro wS hSw; obtain ⟨⟨x0, x1, x2, x3, x4, x5⟩, y0, y1, y2, y3, y4, y5⟩ := hSw; go_simp; first | done | with_reducible rfl)); (try simp only [Act.put, List.setIfInBounds_toArray, List.set_cons_zero, List.set_cons_succ])) | (refine seq_skip rfl ?_ ?_; rfl; (try simp only [Act.put, List.setIfInBounds_toArray, List.set_cons_zero, List.set_cons_succ])))
            refine seq_done ?_
            clear hc1' hc2'
            go_wp2_with fail
            go_roundw
            case rel => exact ⟨j + 1, by omega, by go_num, HW7⟩
            case measure => first | omega | (simp [intOf]; done) | (simp [intOf]; omega)
          · have hjl' : ¬ (j : Int) < (l : Int) := by omega
            have hbf := Lib.hid (below_step' HB.out (below_step' (Hold.below HH.out) HW6.out (Hold.size HH.out)) HB.out.size)
            go_wp2_with fail
            go_ret
            exact ⟨rfl, hbf.out⟩

end Go.Proofs.Ytoogdfjlodchhaa
