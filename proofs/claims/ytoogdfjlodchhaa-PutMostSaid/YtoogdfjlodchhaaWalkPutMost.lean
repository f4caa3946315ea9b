/-
  PutMost answers true for all lists and numbers, and leaves all memory that was there as it was. No condition.
-/
import Derived.Test.YtoogdfjlodchhaaPutCells
import Derived.Test.YtoogdfjlodchhaaClaimMore
import Derived.Test.YtoogdfjlodchhaaWalkPutTurn
import Derived.Deep.DeepCutAuto
namespace Go.Proofs.Ytoogdfjlodchhaa
open Go.RowKit
set_option linter.unusedVariables false

set_option maxRecDepth 100000 in
set_option maxHeartbeats 8000000 in
theorem walk_PutMost (a0 : Int) (a1 : Int) (a2 : Int) (a3 : Int) (a4 : Int) (a5 : Option Addr) (len5 cap5 : Nat) (a6 : Option Addr) (len6 cap6 : Nat) (w : World) (w0 : (Lit.int .i64 a0).wf = true) (w1 : (Lit.int .i64 a1).wf = true) (w2 : (Lit.int .i64 a2).wf = true) (w3 : (Lit.int .i64 a3).wf = true) (w4 : (Lit.int .i64 a4).wf = true) (w5 : IsRows w [.inl .i64, .inl .i64, .inr true] a5 len5 cap5) (w6 : IsRows w [.inl .i64, .inl .u64, .inr true, .inl .i64] a6 len6 cap6) :
    Calls Try.prog 6 #[.int .i64 a0, .int .i64 a1, .int .i64 a2, .int .i64 a3, .int .i64 a4, .slice a5 len5 cap5, .slice a6 len6 cap6] w fun e w' => e = .returned (.bool true) ∧ Below w.heap.size w w' := by
  clear w0 w1 w2 w3 w4
  rcases Nat.lt_or_ge 64 len5 with hbig | hs5
  · have hbig' : (64 : Int) < (len5 : Int) := by omega
    clear w5 w6
    go_enter Try.func6, Try.ntmps6
    go_wp2_with fail
    refine (head10_any _).mono ?_
    rintro e w1 ⟨rfl, hb1⟩
    go_wp2_with fail
    go_ret
    exact ⟨rfl, hb1⟩
  have p5 : decide ((64 : Int) < (len5 : Int)) = false := decide_eq_false (by omega)
  rcases Nat.lt_or_ge 60 len6 with hbig | hs6
  · have hbig' : (60 : Int) < (len6 : Int) := by omega
    clear w5 w6
    go_enter Try.func6, Try.ntmps6
    go_wp2_with fail
    refine (head10_any _).mono ?_
    rintro e w1 ⟨rfl, hb1⟩
    go_wp2_with fail
    go_ret
    exact ⟨rfl, hb1⟩
  have p6 : decide ((60 : Int) < (len6 : Int)) = false := decide_eq_false (by omega)
  obtain ⟨tb, off, X, hX⟩ := rows_place w5
  have HX : Hid (IsPl w a5 len5 cap5 tb off X) := hX
  obtain ⟨ub, uff, Y, hY⟩ := rows_turn4 w6
  have HY : Hid (IsTu w a6 len6 cap6 ub uff Y) := hY
  obtain ⟨uw, huw, lw, gw⟩ : ∃ u, bits .and .i64 a4 65535 = u ∧ 0 ≤ u ∧ u ≤ 65535 := ⟨_, and_ffff a4, by omega, by omega⟩
  clear w5 w6 hX hY
  go_enter Try.func6, Try.ntmps6
  go_wp2_with fail
  refine (head10_any _).mono ?_
  rintro e w1 ⟨rfl, hb1⟩
  go_wp2_with fail
  refine (conf4_any _ _ _ _ _).mono ?_
  rintro e w2 ⟨t, s, so, d, rfl, t1, t2, s1, s2, o0, o4, d0, d3, hb2⟩
  have ht0 : (t == 0) = false := by simp; omega
  have hB2 := Lib.hid (below_step hb1 hb2)
  clear hb1 hb2
  obtain ⟨N, hNe, hlay, hN1, hN2⟩ := lay44 t1 t2 s1 s2
  have hn0 : ¬ N = 0 := by omega
  clear hNe
  go_wp2_with fail
  have hw0 := Int.emod_nonneg uw (show t ≠ 0 by omega)
  have hw1 := Int.emod_lt_of_pos uw (show 0 < t by omega)
  generalize uw % t = who at hw0 hw1 ⊢
  clear huw lw gw
  have hA := AtC.made w2 t s so d
  have hB3 := below_new (Below.refl w2.heap.size w2) (.cells #[.int .i64 t, .int .i64 s, .int .i64 so, .int .i64 d] 29)
  have hs3 : w2.heap.size < (w2.alloc (.cells #[.int .i64 t, .int .i64 s, .int .i64 so, .int .i64 d] 29)).heap.size := by simp
  have HA := Lib.hid hA
  have HB := Lib.hid (below_step hB2.out hB3)
  have Hs := Lib.hid hs3
  clear hA hB3 hs3 hB2
  generalize w2.alloc (.cells #[.int .i64 t, .int .i64 s, .int .i64 so, .int .i64 d] 29) = W at HA HB Hs ⊢
  generalize w2.heap.size = cb at HA Hs ⊢
  clear w2 w1
  obtain ⟨M, hM⟩ : ∃ M : Nat, 2 * (N : Int) + 2 * t = (M : Int) := ⟨(2 * (N : Int) + 2 * t).toNat, by omega⟩
  obtain ⟨nb, hnb⟩ : ∃ nb : Nat, (nb : Int) = 2 * N + t := ⟨(2 * N + t).toNat, by omega⟩
  obtain ⟨hz, hhz⟩ : ∃ hz : Nat, (hz : Int) = 2 * N := ⟨2 * N, by omega⟩
  have HM := Lib.hid hM
  have Hnb := Lib.hid hnb
  have Hhz := Lib.hid hhz
  refine (cells4_any W.heap.size t s so d N M HM.out a5 none len5 cap5 0 0 tb off 0 0 X (fun _ => 0) _ hlay t2 hN2 (Nat.le_refl _) (HX.out.later HB.out (fun i hi => (HX.out i hi).2.2.1)) (fun i hi => absurd hi (by omega))).mono ?_
  rintro r w2 ⟨p, c, v, rfl, hM2, hb2, hft⟩
  have hL0 := ctlL_len X (fun _ => 0) N M (min N len5) (min t.toNat 0)
  have hC0 := ctlC_len X (fun _ => 0) N M (min N len5) (min t.toNat 0)
  generalize ctlL X (fun _ => 0) N M (min N len5) (min t.toNat 0) = L at hM2 hL0
  generalize ctlC X (fun _ => 0) N M (min N len5) (min t.toNat 0) = C at hM2 hC0
  have hL1 : L.length ≤ 100 + 2 * 0 := by omega
  have HH := Lib.hid (Hold.more (Hold.nil (Below.refl W.heap.size W)) hb2 (tMem_ok _ _ _ _ _ _) hM2 hft)
  have HL := Lib.hid hL1
  have HC := Lib.hid hC0
  clear hM2 hb2 hft hL0 hC0 hL1 hM hnb hhz
  obtain ⟨m, hm, hmN⟩ := who_s hlay hw0 hw1
  obtain ⟨q0, q1, q2, q3⟩ := HA.out.later HH.out.below Hs.out
  go_wp2_with fail
  refine (punew_any _ N m t s so d who 0 1 hlay hw0 hw1 hm (by omega) hmN).mono ?_
  rintro r w3 ⟨b, b1, b2, rfl, hS3, hb3, hbb⟩
  have HH1 : Hid (PuHold W w3 p c v C L b b1 b2 (pu0 t s so d who 0 1 m) []) := PuHold.begun HH.out hb3 hS3 hbb
  obtain ⟨Q, q, hq1, hQ, hQ1, hQ2, hQ3, hQ4⟩ := pmost_le (so := so) t1 t2 s1 s2 d0 d3
  have HK : Hid ((pu0 t s so d who 0 1 m).Ok N m nb hz C) := pu0_ok hlay Hhz.out Hnb.out (by have := HC.out; have := HM.out; have := Hnb.out; omega) hw0 hw1 hm (by omega) hmN o0 o4 d0 (by omega) (by decide) (by decide) (by decide) (by decide)
  have HR : Hid (((0 : Nat) : Int) + (pu0 t s so d who 0 1 m).rem m ≤ (Q : Int)) := by show _ ≤ _; rw [pu0_rem, hQ]; omega
  have HSM : Hid ((pu0 t s so d who 0 1 m).Same (pu0 t s so d who 0 1 m)) := Pu.Same.refl _
  have HQ := Lib.hid hQ
  have Hq := Lib.hid hq1
  have HQ3 := Lib.hid hQ3
  clear hS3 hb3 hbb q0 q1 q2 q3 HH hm hQ hq1 hQ3
  go_wp2_with fail
  go_loopw [18] (fun i wr => ∃ (n : Nat) (v : Value) (C : List Int) (L : List Ev) (k : Pu), n ≤ Q ∧ i = .int .i64 n ∧ Hid (PuHold W wr p c v C L b b1 b2 k []) ∧ Hid (k.Ok N m nb hz C) ∧ Hid ((n : Int) + k.rem m ≤ (Q : Int)) ∧ Hid (C.length = M) ∧ Hid (L.length ≤ 100 + 2 * n)) (fun i _ => 30 - (intOf i).toNat)
  case atStart => exact ⟨0, _, _, _, _, by omega, rfl, HH1, HK, HR, HC, HL⟩
  case round =>
    clear HH1 HK HR HC HL HSM
    obtain ⟨n, v, C, L, k, hn, rfl, HH, HK, HR, HC, HL⟩ := hrel
    by_cases hp : k.ph = 0
    · have hrp := Pu.rem_pos HK.out hp
      have hnQ : n < Q := by have := HR.out; omega
      have HP := Lib.hid hp
      have hn2 : (n : Int) < 2000 := by omega
      clear hp hrp
      go_wp2_with fail
      refine (puphase_at 0 HP.out HH.out.pu).mono ?_
      rintro r wr2 ⟨rfl, rfl⟩
      go_upto_if 60 with (fail)
      go_cut [] (fun wx => ∃ (v' : Value) (C' : List Int) (L' : List Ev), Hid (PuHold W wx p c v' C' L' b b1 b2 k []) ∧ Hid (C'.length = C.length) ∧ Hid (L'.length ≤ L.length + 1))
      case first =>
        rcases Nat.lt_or_ge n len6 with hlt | hge
        · obtain ⟨rfl, hcap, htb, hx0, hx1, hx2, hx3, z0, z1⟩ := HY.out n hlt
          have hlt' : (n : Int) < (len6 : Int) := by omega
          have hwW : Below w.heap.size w wr := below_step' HB.out HH.out.below HB.out.size
          replace hx0 := (hwW.cell (p := ⟨ub, _, none⟩) htb).trans hx0
          replace hx1 := (hwW.cell (p := ⟨ub, _, none⟩) htb).trans hx1
          replace hx2 := (hwW.cell (p := ⟨ub, _, none⟩) htb).trans hx2
          replace hx3 := (hwW.cell (p := ⟨ub, _, none⟩) htb).trans hx3
          generalize (Y n).1 = th at hx0
          generalize (Y n).2.1 = x at hx1 z0 z1
          generalize (Y n).2.2.1 = sb at hx2
          generalize (Y n).2.2.2 = ti at hx3
          have htn : ¬ t = 0 := by omega
          obtain ⟨u5, hu5, l5, g5⟩ : ∃ u, bits .and .i64 th 65535 = u ∧ 0 ≤ u ∧ u ≤ 65535 := ⟨_, and_ffff th, by omega, by omega⟩
          obtain ⟨j, hj, hjt⟩ : ∃ j : Nat, u5.tmod t = (j : Int) ∧ (j : Int) < t := by
            have h1 := Int.emod_nonneg u5 (show t ≠ 0 by omega)
            have h2 := Int.emod_lt_of_pos u5 (show 0 < t by omega)
            rw [Int.tmod_eq_emod_of_nonneg l5]
            exact ⟨(u5 % t).toNat, by omega, by omega⟩
          have hbx := below_new (Below.refl wr.heap.size wr) (.cells #[i64 th, .int .u64 x, .bool sb, i64 ti] 43)
          have HX1 : Hid ((wr.alloc (.cells #[i64 th, .int .u64 x, .bool sb, i64 ti] 43)).cell? ⟨wr.heap.size, 1, none⟩ = some (.int .u64 x)) := World.cell?_alloc_new wr _ _ 1
          have HHx := Lib.hid (HH.out.later hbx)
          have HZ : Hid (0 ≤ x ∧ x ≤ 18446744073709551615) := ⟨z0, z1⟩
          have HFt : Hid (∀ q, Foot p c v q → q ≠ wr.heap.size) := fun q hq e => by have := (HH.out.mem.foot q hq).2; omega
          have HJt := Lib.hid hjt
          obtain ⟨q0, q1, q2, q3⟩ := HA.out.later HHx.out.below Hs.out
          clear hwW hbx z0 z1
          cases sb with
          | true =>
            go_wp2_with fail
            refine wp_region_seqS ((fun w' => AtC w' cb t s so d ∧ w'.cell? ⟨wr.heap.size, 1, none⟩ = some (.int .u64 x))) ((0, true) :: (1, true) :: (2, true) :: (4, true) :: (5, true) :: (3, false) :: (6, false) :: []) (by kernel_rfl) (by kernel_rfl) (by kernel_rfl) (by decide) (fun _ _ _ _ _ h => h) (⟨HA.out.later HHx.out.drew.below Hs.out, HX1.out⟩) ?_
            replace HHx := Lib.hid HHx.out.drew
            replace HX1 : Hid ((wr.alloc (.cells #[i64 th, .int .u64 x, .bool true, i64 ti] 43)).drew.cell? ⟨wr.heap.size, 1, none⟩ = some (.int .u64 x)) := HX1.out
            generalize (wr.alloc (.cells #[i64 th, .int .u64 x, .bool true, i64 ti] 43)).drew = wy at HHx HX1 ⊢
            clear q0 q1 q2 q3 hx0 hx1 hx2 hx3
            repeat (first | (refine seq_take (v := ?_) rfl ?_ ?_ ?_; rotate_left 1; rfl; (focus (intro wS hSw; obtain ⟨⟨k0, k1, k2, k3⟩, ky⟩ := hSw; go_simp; first | done | with_reducible rfl)); (try simp only [Act.put, List.setIfInBounds_toArray, List.set_cons_zero, List.set_cons_succ])) | (refine seq_skip rfl ?_ ?_; rfl; (try simp only [Act.put, List.setIfInBounds_toArray, List.set_cons_zero, List.set_cons_succ])))
            refine seq_run rfl (fun K hK => ?_)
            go_simp
            (try rw [hj])
            go_at_call 23
            refine (cnum_at t s so d N nb j _ hlay Hnb.out (by have := HJt.out; omega)).mono ?_
            rintro r w5 ⟨rfl, hb5⟩
            (try go_wp2_with fail)
            replace HHx := Lib.hid (HHx.out.later hb5)
            replace HX1 := Lib.hid (hb5.cell (p := ⟨_, 1, none⟩) (World.block_lt_of_cell? _ _ HX1.out) |>.trans HX1.out)
            clear hb5
            refine hK.out _ _ (⟨HA.out.later HHx.out.below Hs.out, HX1.out⟩) (fun _ => ?_)
            (try simp only [Act.put, List.setIfInBounds_toArray, List.set_cons_zero, List.set_cons_succ])
            clear hK K
            repeat (first | (refine seq_take (v := ?_) rfl ?_ ?_ ?_; rotate_left 1; rfl; (focus (intro wS hSw; obtain ⟨⟨k0, k1, k2, k3⟩, ky⟩ := hSw; go_simp; first | done | with_reducible rfl)); (try simp only [Act.put, List.setIfInBounds_toArray, List.set_cons_zero, List.set_cons_succ])) | (refine seq_skip rfl ?_ ?_; rfl; (try simp only [Act.put, List.setIfInBounds_toArray, List.set_cons_zero, List.set_cons_succ])))
            refine seq_run rfl (fun K hK => ?_)
            go_simp
            go_at_call 22
            refine (store_in W.heap.size _ p c _ _ _ (-1) (nb + j) _ x HHx.out.mem (getD_pu (by have := HC.out; have := HM.out; have := Hnb.out; have := Hhz.out; have := HJt.out; omega)) HHx.out.size (by have := HL.out; omega) HZ.out.1 HZ.out.2).mono ?_
            rintro r w6 ⟨rfl, v6, hT6⟩
            (try go_wp2_with fail)
            replace HX1 := Lib.hid (hT6.keep.cell HX1.out (fun hf => HFt.out _ hf rfl))
            have HH6 := Lib.hid (HHx.out.store hT6)
            clear hT6
            refine hK.out _ _ (⟨HA.out.later HH6.out.below Hs.out, HX1.out⟩) (fun _ => ?_)
            (try simp only [Act.put, List.setIfInBounds_toArray, List.set_cons_zero, List.set_cons_succ])
            clear hK K
            refine seq_done ?_
            go_wp2_with fail
            go_meet
            exact ⟨v6, _, _, HH6, List.length_set, by show _ ≤ _; simp⟩
          | false =>
            go_wp2_with fail
            obtain ⟨y, hy, y0, y1⟩ : ∃ y, bits .and .u64 x 31 = y ∧ 0 ≤ y ∧ y ≤ 31 := ⟨_, rfl, by rw [and_mod x 31 32 5 rfl rfl HZ.out.1 (by have := HZ.out.2; omega) (by decide)]; omega, by rw [and_mod x 31 32 5 rfl rfl HZ.out.1 (by have := HZ.out.2; omega) (by decide)]; omega⟩
            refine wp_region_seqS ((fun w' => AtC w' cb t s so d ∧ w'.cell? ⟨wr.heap.size, 1, none⟩ = some (.int .u64 x))) ((0, true) :: (1, true) :: (2, true) :: (4, true) :: (5, true) :: (6, true) :: (3, false) :: (7, false) :: []) (by kernel_rfl) (by kernel_rfl) (by kernel_rfl) (by decide) (fun _ _ _ _ _ h => h) (⟨HA.out.later HHx.out.drew.below Hs.out, HX1.out⟩) ?_
            replace HHx := Lib.hid HHx.out.drew
            replace HX1 : Hid ((wr.alloc (.cells #[i64 th, .int .u64 x, .bool false, i64 ti] 43)).drew.cell? ⟨wr.heap.size, 1, none⟩ = some (.int .u64 x)) := HX1.out
            generalize (wr.alloc (.cells #[i64 th, .int .u64 x, .bool false, i64 ti] 43)).drew = wy at HHx HX1 ⊢
            clear q0 q1 q2 q3 hx0 hx1 hx2 hx3
            repeat (first | (refine seq_take (v := ?_) rfl ?_ ?_ ?_; rotate_left 1; rfl; (focus (intro wS hSw; obtain ⟨⟨k0, k1, k2, k3⟩, ky⟩ := hSw; go_simp; first | done | with_reducible rfl)); (try simp only [Act.put, List.setIfInBounds_toArray, List.set_cons_zero, List.set_cons_succ])) | (refine seq_skip rfl ?_ ?_; rfl; (try simp only [Act.put, List.setIfInBounds_toArray, List.set_cons_zero, List.set_cons_succ])))
            refine seq_run rfl (fun K hK => ?_)
            go_simp
            (try rw [hj])
            go_at_call 48
            refine (chz_at t s so d N hz j _ hlay Hhz.out (by have := HJt.out; omega)).mono ?_
            rintro r w5 ⟨rfl, hb5⟩
            (try go_wp2_with fail)
            replace HHx := Lib.hid (HHx.out.later hb5)
            replace HX1 := Lib.hid (hb5.cell (p := ⟨_, 1, none⟩) (World.block_lt_of_cell? _ _ HX1.out) |>.trans HX1.out)
            clear hb5
            refine hK.out _ _ (⟨HA.out.later HHx.out.below Hs.out, HX1.out⟩) (fun _ => ?_)
            (try simp only [Act.put, List.setIfInBounds_toArray, List.set_cons_zero, List.set_cons_succ])
            clear hK K
            repeat (first | (refine seq_take (v := ?_) rfl ?_ ?_ ?_; rotate_left 1; rfl; (focus (intro wS hSw; obtain ⟨⟨k0, k1, k2, k3⟩, ky⟩ := hSw; go_simp; first | done | with_reducible rfl)); (try simp only [Act.put, List.setIfInBounds_toArray, List.set_cons_zero, List.set_cons_succ])) | (refine seq_skip rfl ?_ ?_; rfl; (try simp only [Act.put, List.setIfInBounds_toArray, List.set_cons_zero, List.set_cons_succ])))
            refine seq_run rfl (fun K hK => ?_)
            go_simp
            go_at_call 22
            refine (store_in W.heap.size _ p c _ _ _ (-1) (hz + j) _ y HHx.out.mem (getD_pu (by have := HC.out; have := HM.out; have := Hnb.out; have := Hhz.out; have := HJt.out; omega)) HHx.out.size (by have := HL.out; omega) (by omega) (by omega)).mono ?_
            rintro r w6 ⟨rfl, v6, hT6⟩
            (try go_wp2_with fail)
            replace HX1 := Lib.hid (hT6.keep.cell HX1.out (fun hf => HFt.out _ hf rfl))
            have HH6 := Lib.hid (HHx.out.store hT6)
            clear hT6
            refine hK.out _ _ (⟨HA.out.later HH6.out.below Hs.out, HX1.out⟩) (fun _ => ?_)
            (try simp only [Act.put, List.setIfInBounds_toArray, List.set_cons_zero, List.set_cons_succ])
            clear hK K
            refine seq_done ?_
            go_wp2_with fail
            go_meet
            exact ⟨v6, _, _, HH6, List.length_set, by show _ ≤ _; simp⟩
        · have hlt' : ¬ (n : Int) < (len6 : Int) := by omega
          go_wp2_with fail
          go_meet
          exact ⟨v, C, L, HH, rfl, Nat.le_succ _⟩
      case rest =>
        obtain ⟨v', C', L', HH', HC', HL'⟩ := hcut
        clear HH
        have HK2 := Lib.hid (HK.out.cells HC'.out)
        obtain ⟨l1, hl1⟩ : ∃ l1 : Nat, L'.length = l1 := ⟨_, rfl⟩
        have hl1b : l1 ≤ 200 := by have := HL.out; have := HL'.out; omega
        have HL1 := Lib.hid hl1
        clear hl1
        go_wp2_with fail
        refine (count_at _ _ p c _ _ _ l1 HH'.out.mem HL1.out).mono ?_
        rintro r wr3 ⟨rfl, rfl⟩
        go_wp2_with fail
        refine (HH'.out.call (now := (n : Int)) HK2.out (by omega) (by rw [HL1.out]; omega)).mono ?_
        rintro r w4 ⟨rfl, v4, hH4⟩
        have hnx := HK2.out.next_ (now := (n : Int)) (by omega) HH'.out.mem.nn
        have HK4 := Lib.hid (hnx.1.cells (Pu.cells_len k N nb C' n))
        have HR4 := Lib.hid (hnx.2 HP.out)
        obtain ⟨l2, hl2⟩ : ∃ l2 : Nat, (L' ++ k.ev N nb hz C' n).length = l2 := ⟨_, rfl⟩
        have hl2b : l2 ≤ l1 + 1 := by rw [← hl2, List.length_append, HL1.out]; have := Pu.ev_le k N nb hz C' n; omega
        have HL2 := Lib.hid hl2
        have HH4 := Lib.hid hH4
        clear hl2 hH4 hnx HH'
        have hcmp : ¬ l1 + 1 < l2 := by omega
        go_wp2_with fail
        refine (count_at _ _ p c _ _ _ l2 HH4.out.mem HL2.out).mono ?_
        rintro r wr3 ⟨rfl, rfl⟩
        go_wp2_with fail
        go_roundw
        case rel => exact ⟨n + 1, v4, _, _, _, by omega, by go_num, HH4, HK4, by have := HR.out; have := HR4.out; show _ ≤ _; omega, by show _ = _; rw [Pu.cells_len, HC'.out]; exact HC.out, by have := HL.out; have := HL'.out; have := HL1.out; have := HL2.out; show _ ≤ _; omega⟩
        case measure => first | omega | (simp [intOf]; done) | (simp [intOf]; omega)
    · have HP := Lib.hid hp
      have hp2 : k.ph = 1 ∨ k.ph = 2 ∨ (k.ph == 0) = false := .inr (.inr (by simp [hp]))
      have qp : (k.ph == 0) = false := by simp [hp]
      clear hp hp2
      go_wp2_with fail
      refine (puphase_at k.ph rfl HH.out.pu).mono ?_
      rintro r wr2 ⟨rfl, rfl⟩
      obtain ⟨q0, q1, q2, q3⟩ := HA.out.later HH.out.below Hs.out
      obtain ⟨r0, r1, r2, r3⟩ := HA.out.later (below_step' HH.out.below (below_new (Below.refl wr.heap.size wr) (.cells #[.int .i64 1, .int .i64 (t + 1), .int .i64 4, .int .i64 1, .int .i64 (d + 2)] 3)) HH.out.size) Hs.out
      have hmul : wrap64 (s * (t + 1)) = (q : Int) := by rw [Hq.out]; unfold wrap64; omega
      have HPM := Lib.hid (fun W' => pmost_any t s so d t1 t2 s1 s2 d0 d3 o0 o4 Q HQ.out W')
      have hQq : (q : Int) + most t so d + 2 = (Q : Int) := by have := HQ.out; have := Hq.out; omega
      rcases (by omega : so = 0 ∨ so = 1 ∨ so = 2 ∨ so = 3 ∨ so = 4) with rfl | rfl | rfl | rfl | rfl
      all_goals
        simp only [most, reduceIte, Int.reduceEq] at hQq
        have hQi : (q : Int) + 3 ≤ (Q : Int) ∧ (Q : Int) ≤ 27 := by omega
        go_wp2_with fail
        refine (HPM.out _).mono ?_
        rintro r w5 ⟨rfl, hb5⟩
        have hbf := Lib.hid (below_step' HB.out (below_step' HH.out.below (below_step (below_new (Below.refl wr.heap.size wr) _) hb5) HH.out.size) HB.out.size)
        clear hb5
        go_wp2_with fail
        go_ret
        exact ⟨by simp, hbf.out⟩

end Go.Proofs.Ytoogdfjlodchhaa
