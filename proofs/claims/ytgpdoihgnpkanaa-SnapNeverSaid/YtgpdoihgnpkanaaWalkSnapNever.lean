/-
  SnapNever answers true for all numbers, and leaves all memory that was there as it was. No condition.
-/
import Derived.Test.YtgpdoihgnpkanaaSnapPure2
import Derived.Deep.DeepCutAuto
namespace Go.Proofs.Ytgpdoihgnpkanaa
open Go.RowKit
set_option linter.unusedVariables false

set_option maxRecDepth 100000 in
set_option maxHeartbeats 2000000 in
theorem walk_SnapNever (a0 : Int) (a1 : Int) (a2 : Int) (a3 : Int) (a4 : Int) (w : World) (w0 : (Lit.int .i64 a0).wf = true) (w1 : (Lit.int .i64 a1).wf = true) (w2 : (Lit.int .i64 a2).wf = true) (w3 : (Lit.int .i64 a3).wf = true) (w4 : (Lit.int .i64 a4).wf = true) :
    Calls Try.prog 10 #[.int .i64 a0, .int .i64 a1, .int .i64 a2, .int .i64 a3, .int .i64 a4] w fun e w' => e = .returned (.bool true) ∧ Below w.heap.size w w' := by
  clear w0 w1 w2 w3 w4
  obtain ⟨ps, hps, hpl⟩ : ∃ ps : Nat, bits .and .i64 a3 15 = (ps : Int) ∧ ps ≤ 15 := by
    have h : bits .and .i64 a3 15 = a3 % 16 := by rw [show (15 : Int) = ((15 : Nat) : Int) from rfl, and_i64 a3 15 4 rfl (by decide)]; rfl
    exact ⟨(a3 % 16).toNat, by omega, by omega⟩
  obtain ⟨u4, hu4, l4, g4⟩ : ∃ u, bits .and .i64 a4 65535 = u ∧ 0 ≤ u ∧ u ≤ 65535 := ⟨_, and_ffff a4, by omega, by omega⟩
  go_enter Try.func10, Try.ntmps10
  go_wp2_with fail
  refine (head7_any _).mono ?_
  rintro e w1 ⟨rfl, hb1⟩
  go_wp2_with fail
  refine (conf2_any _ _ _).mono ?_
  rintro e w2 ⟨t, s, rfl, t1, t2, s1, s2, hb2⟩
  have ht0 : (t == 0) = false := by simp; omega
  have hB2 := Lib.hid (below_step hb1 hb2)
  clear hb1 hb2
  obtain ⟨N, hNe, hlay, hN1, hN2⟩ := lay44 t1 t2 s1 s2
  have hn0 : ¬ N = 0 := by omega
  clear hNe
  go_wp2_with fail
  have hA := AtC.made w2 t s 0 0
  have hB3 := below_new (Below.refl w2.heap.size w2) (.cells #[.int .i64 t, .int .i64 s, .int .i64 0, .int .i64 0] 27)
  have hs3 : w2.heap.size < (w2.alloc (.cells #[.int .i64 t, .int .i64 s, .int .i64 0, .int .i64 0] 27)).heap.size := by simp
  have HA := Lib.hid hA
  have HB := Lib.hid (below_step hB2.out hB3)
  have Hs := Lib.hid hs3
  clear hA hB3 hs3 hB2
  generalize w2.alloc (.cells #[.int .i64 t, .int .i64 s, .int .i64 0, .int .i64 0] 27) = W at HA HB Hs ⊢
  generalize w2.heap.size = cb at HA Hs ⊢
  clear w2 w1
  refine (call_any t s 0 0 N _ hlay).mono ?_
  rintro r w1 ⟨rfl, hb1⟩
  obtain ⟨j, hj, hj2, hjN⟩ : ∃ j : Nat, u4.tmod (N : Int) = (j : Int) ∧ u4 % (N : Int) = (j : Int) ∧ j < N := by
    have h1 := Int.emod_nonneg u4 (show (N : Int) ≠ 0 by omega)
    have h2 := Int.emod_lt_of_pos u4 (show (0 : Int) < (N : Int) by omega)
    rw [Int.tmod_eq_emod_of_nonneg l4]
    exact ⟨(u4 % (N : Int)).toNat, by omega, by omega, by omega⟩
  obtain ⟨q0, q1, q2, q3⟩ := HA.out.later hb1 Hs.out
  go_wp2_with fail
  refine (ccells_any t s 0 0 N _ hlay).mono ?_
  rintro r w2 ⟨rfl, hb2⟩
  obtain ⟨M, hM⟩ : ∃ M : Nat, 2 * (N : Int) + 2 * t = (M : Int) := ⟨(2 * (N : Int) + 2 * t).toNat, by omega⟩
  have HM := Lib.hid hM
  rw [hM]
  clear hM q0 q1 q2 q3
  have hb12 := below_step hb1 hb2
  clear hb1 hb2
  go_wp2_with fail
  refine (new_nat W.heap.size M M _ hb12.size (by have := HM.out; omega) (.inl rfl)).mono ?_
  rintro r w3 ⟨p, c, rfl, hM3, hb3, hp, hc⟩
  have hb13 := below_step' hb12 hb3 hb12.size
  obtain ⟨q0, q1, q2, q3⟩ := HA.out.later hb13 Hs.out
  go_wp2_with fail
  refine (snnew_any W.heap.size _ t s 0 0 0 a2 N N hlay rfl hb13.size).mono ?_
  rintro r w4 ⟨b, g, rfl, hS4, hb4, hbb, hbg⟩
  obtain ⟨st, hst, hst2⟩ : ∃ st : Nat, IntKind.u64.wrap a2 % (N : Int) = (st : Int) ∧ st < N := by
    have h := start_mod a2 N hN1 (by omega)
    exact ⟨(IntKind.u64.wrap a2 % (N : Int)).toNat, by omega, by omega⟩
  rw [hst] at hS4
  have hH := SnapHold.begun hb12 hM3 hb3 hp hc hb4 hS4 hbb hbg
  have HH := Lib.hid hH
  have HN0 : Hid (QInv (sn0 t s 0 0 0 st N) (List.replicate M 0) N st 0 0 0 (((0 : Nat) : Int) - 1)) := QInv.start t s 0 0 0 (List.replicate M 0) N st 0 hst2
  have HE0 : Hid (SnSame (sn0 t s 0 0 0 st N) (sn0 t s 0 0 0 st N)) := ⟨rfl, rfl, rfl, rfl, rfl⟩
  have HL0 : Hid ((List.replicate M (0 : Int)).length = M) := List.length_replicate
  clear hH hS4 hb4 hbb hbg hM3 hb3 hp hc hb12 hb13 q0 q1 q2 q3
  have HX0 : Hid ((List.replicate M (0 : Int)).getD j 0 = ((0 : Nat) : Int) ∧ (sn0 t s 0 0 0 st N).X.getD j 0 = ((0 : Nat) : Int)) := ⟨zeros M j, zeros N j⟩
  have hjM : j < M := by have := HM.out; omega
  go_wp2_with fail
  go_loopw [14] (fun i wr => ∃ (q : Nat) (v : Value) (C : List Int) (L : List Ev) (k : Sn), q ≤ ps ∧ i = .int .i64 q ∧ Hid (SnapHold W wr p c v C L b g k []) ∧ Hid (QInv k C N st 0 q q ((q : Int) - 1)) ∧ Hid (SnSame (sn0 t s 0 0 0 st N) k) ∧ Hid (C.length = M) ∧ Hid (L.length ≤ 17 * q) ∧ Hid (C.getD j 0 = (q : Int) ∧ k.X.getD j 0 = (q : Int))) (fun i _ => ps - (intOf i).toNat)
  case atStart => exact ⟨0, _, _, _, _, by omega, rfl, HH, HN0, HE0, HL0, Nat.zero_le _, HX0⟩
  case round =>
    clear HH HN0 HE0 HL0 HX0
    obtain ⟨q, v, C, L, k, hq, rfl, HH, HN, HE, HC, HL, HX⟩ := hrel
    rcases Nat.lt_or_ge q ps with hqp | hqp
    · obtain ⟨q0, q1, q2, q3⟩ := HA.out.later HH.out.below Hs.out
      have hwq : IntKind.u64.wrap ((q : Int) + 1) = (q : Int) + 1 := by rw [IntKind.wrap_u64]; omega
      go_wp2_with fail
      refine (cword_any _ _ _ _ _ _).mono ?_
      rintro r w5 ⟨rfl, hb5⟩
      have HH5 := Lib.hid (HH.out.later hb5)
      clear hb5 q0 q1 q2 q3
      go_wp2_with fail
      refine (store_in W.heap.size _ p c _ _ _ (-1) j _ ((q : Int) + 1) HH5.out.mem (getD_at (by rw [HC.out]; exact hjM)) HH5.out.size (by have := HL.out; omega) (by omega) (by omega)).mono ?_
      rintro r w7 ⟨rfl, v7, hT7⟩
      have HH7 := Lib.hid (HH5.out.store hT7)
      clear hT7 HH5
      have HC7 : Hid ((C.set j ((q : Int) + 1)).length = M) := by show _ = _; rw [List.length_set]; exact HC.out
      have HV7 : Hid (Nev k (C.set j ((q : Int) + 1)) N st q j 0) := .inl ⟨by omega, HN.out.store_any _ _ (Nat.le_refl _), by rw [set_getD _ _ _ _ (by rw [HC.out]; exact hjM), if_pos rfl], fun ⟨e, he, _⟩ => by omega, fun _ => HX.out.2⟩
      have HL7 : ∀ e : Ev, Hid ((L ++ [e]).length ≤ 17 * q + 1 + 0) := fun e => by show _ ≤ _; rw [List.length_append]; have := HL.out; simp; omega
      have HL8 := HL7 ⟨-1, 1, (j : Nat), C.getD j 0, (q : Int) + 1, true⟩
      clear HL7
      obtain ⟨L7, hL7⟩ : ∃ L7, L ++ [(⟨-1, 1, (j : Nat), C.getD j 0, (q : Int) + 1, true⟩ : Ev)] = L7 := ⟨_, rfl⟩
      rw [hL7] at HH7 HL8
      generalize C.set j ((q : Int) + 1) = C7 at HH7 HC7 HV7
      obtain ⟨wo, rfl⟩ : ∃ wo : World, wo = wr := ⟨_, rfl⟩
      clear hL7 HX HN HC HL HH hwq
      go_wp2_with fail
      go_loopw [15] (fun i wr => ∃ (m : Nat) (v : Value) (L : List Ev) (k : Sn), m ≤ N ∧ i = .int .i64 m ∧ Hid (SnapHold W wr p c v C7 L b g k []) ∧ Hid (Nev k C7 N st q j m) ∧ Hid (SnSame (sn0 t s 0 0 0 st N) k) ∧ Hid (L.length ≤ 17 * q + 1 + m)) (fun i _ => N - (intOf i).toNat)
      case atStart => exact ⟨0, _, _, _, by omega, rfl, HH7, HV7, HE, HL8⟩
      case round =>
        clear HH7 HV7 HE HL8
        obtain ⟨m, v, L, k, hm, rfl, HH, HV, HE, HL⟩ := hrel
        obtain ⟨q0, q1, q2, q3⟩ := HA.out.later HH.out.below Hs.out
        go_wp2_with fail
        refine (call_any t s 0 0 N _ hlay).mono ?_
        rintro r w5 ⟨rfl, hb5⟩
        replace HH := Lib.hid (HH.out.later hb5)
        clear hb5 q0 q1 q2 q3
        rcases Nat.lt_or_ge m N with hmN | hmN
        · obtain ⟨r, P, hr, hQ, hP⟩ := HV.out.qinv
          have hok := (show Snap k C7 N st (P * N + r) (q + 1) (q : Int) from .inl ⟨P, r, rfl, hQ⟩).ok (t := t) (s := s) HE.out rfl rfl hlay rfl (by have := HC7.out; have := HM.out; omega) (by have := Nat.mul_le_mul (show P ≤ 16 by omega) hN2; omega)
          have HST := Lib.hid (HH.out.call hok (by have := HL.out; omega))
          obtain ⟨hv2, hp2⟩ := HV.out.step hmN hjN
          have HV2 := Lib.hid hv2
          have HP2 := Lib.hid hp2
          have HE2 := Lib.hid (HE.out.trans (Snap.same C7 k))
          have hmN' : (m : Int) < (N : Int) := by omega
          clear hok HV HE hQ hr hP hv2 hp2
          go_wp2_with fail
          refine HST.out.mono ?_
          rintro r w4 ⟨rfl, v4, hH4⟩
          have HH4 := Lib.hid hH4
          clear hH4
          rw [HP2.out]
          go_wp2_with fail
          go_roundw
          case rel => exact ⟨m + 1, v4, _, _, by omega, by go_num, HH4, HV2, HE2, by show _ ≤ _; rw [List.length_append]; have := HL.out; have := Sn.ev_le k C7; omega⟩
          case measure => simp [intOf]; omega
        · obtain rfl : m = N := by omega
          rcases HV.out with ⟨h, _⟩ | ⟨_, hQ, hc, hx⟩
          case inl => omega
          have HN2 : Hid (QInv k C7 m st 0 (q + 1) (q + 1) (((q + 1 : Nat) : Int) - 1)) := by
            have e : ((q + 1 : Nat) : Int) - 1 = (q : Int) := by omega
            show QInv _ _ _ _ _ _ _ _
            rw [e]
            exact hQ
          have HX2 : Hid (C7.getD j 0 = ((q + 1 : Nat) : Int) ∧ k.X.getD j 0 = ((q + 1 : Nat) : Int)) := ⟨hc, hx⟩
          clear hQ hc hx HV
          go_wp2_with fail
          go_roundw
          case rel => exact ⟨q + 1, v, C7, L, k, by omega, by go_num, HH, HN2, HE, HC7, by have := HL.out; show _ ≤ _; omega, HX2⟩
          case measure => simp [intOf]; omega
    · obtain rfl : q = ps := by omega
      have HS0 : Hid (Snap k C N st (q * N + 0) q ((q : Int) - 1)) := .inl ⟨q, 0, rfl, HN.out⟩
      have HZ0 : Hid (k.ph = 0) := HN.out.ph
      have HCJ := Lib.hid HX.out.1
      have HL0 : Hid (L.length ≤ 17 * q + 0) := HL.out
      obtain ⟨wo, rfl⟩ : ∃ wo : World, wo = wr := ⟨_, rfl⟩
      clear HX HN HL
      go_wp2_with fail
      go_loopw [16] (fun i wr => ∃ (m : Nat) (v : Value) (L : List Ev) (k : Sn), m ≤ 2 * N ∧ i = .int .i64 m ∧ Hid (SnapHold W wr p c v C L b g k []) ∧ Hid (Snap k C N st (q * N + m) q ((q : Int) - 1)) ∧ Hid (SnSame (sn0 t s 0 0 0 st N) k) ∧ Hid (L.length ≤ 17 * q + m) ∧ Hid (k.ph = 0 ∨ 1 ≤ m)) (fun i _ => 2 * N - (intOf i).toNat)
      case atStart => exact ⟨0, _, _, _, by omega, rfl, HH, HS0, HE, HL0, .inl HZ0.out⟩
      case round =>
        clear HH HS0 HE HL0 HZ0
        obtain ⟨m, v, L, k, hm, rfl, HH, HS, HE, HL, HZ⟩ := hrel
        obtain ⟨q0, q1, q2, q3⟩ := HA.out.later HH.out.below Hs.out
        rcases HS.out.cases with ⟨hp, hlt⟩ | ⟨hp, P, hP, hpa, hP2, hP3, hx⟩
        · have hmul : (q + 2) * N = q * N + 2 * N := Nat.add_mul _ _ _
          have hm2 : m < 2 * N := by omega
          have hlt3 : (m : Int) < 10 * (N : Int) := by omega
          have hok := HS.out.ok (t := t) (s := s) HE.out rfl rfl hlay rfl (by have := HC.out; have := HM.out; omega) (by have := Nat.mul_le_mul (show q ≤ 15 from hpl) hN2; omega)
          have HOK := Lib.hid hok
          have HN2 : Hid (Snap (k.step C) C N st (q * N + (m + 1)) q ((q : Int) - 1)) := HS.out.step hp
          have HE2 := Lib.hid (HE.out.trans (Snap.same C k))
          have HP := Lib.hid hp
          clear hok hp hlt hmul HS HE
          go_wp2_with fail
          refine (snphase_any W.heap.size _ b g k HH.out.sn).mono ?_
          rintro r w' ⟨rfl, rfl⟩
          rw [HP.out]
          go_wp2_with fail
          refine (call_any t s 0 0 N _ hlay).mono ?_
          rintro r w5 ⟨rfl, hb5⟩
          have HH5 := Lib.hid (HH.out.later hb5)
          have HST := Lib.hid (HH5.out.call HOK.out (by have := HL.out; omega))
          clear q0 q1 q2 q3 hb5
          go_wp2_with fail
          refine HST.out.mono ?_
          rintro r w4 ⟨rfl, v4, hH4⟩
          have HH4 := Lib.hid hH4
          clear hH4
          go_wp2_with fail
          go_roundw
          case rel => exact ⟨m + 1, v4, _, _, by omega, by go_num, HH4, HN2, HE2, by show _ ≤ _; rw [List.length_append]; have := HL.out; have := Sn.ev_le k C; omega, .inr (by omega)⟩
          case measure => simp [intOf]; omega
        · have HP := Lib.hid hp
          have HNN := Lib.hid HS.out.X
          have hm0 : 1 ≤ m := by
            rcases HZ.out with h | h
            · omega
            · exact h
          have hPq : q < P := by
            rcases Nat.lt_or_ge q P with h | h
            · exact h
            · have := Nat.mul_le_mul_right N h
              omega
          have HXJ : Hid (k.X[j]? = some (q : Int)) := by
            show _ = _
            rw [getD_at (by rw [HNN.out.1]; exact hjN), hx (by omega) j hjN, HCJ.out]
          have hwq : IntKind.u64.wrap (q : Int) = (q : Int) := by rw [IntKind.wrap_u64]; omega
          clear hp hpa hx hP hP2 hP3 HS HZ hPq
          go_wp2_with fail
          refine (snphase_any W.heap.size _ b g k HH.out.sn).mono ?_
          rintro r w' ⟨rfl, rfl⟩
          rw [HP.out]
          go_wp2_with fail
          refine (snwords_any W.heap.size _ b g k HP.out (by rw [HNN.out.2]; omega) HH.out.sn).mono ?_
          rintro r w5 ⟨h5, rfl, ho5, hb5⟩
          rw [HNN.out.2] at ho5 ⊢
          replace HH := Lib.hid (HH.out.later hb5)
          have hc5 : w5.cell? ⟨h5, j, none⟩ = some (.int .u64 (q : Int)) := by
            rw [ho5.cellAt j (by omega), List.getElem?_map, HXJ.out]
            rfl
          clear q0 q1 q2 q3 ho5 hb5
          obtain ⟨q0, q1, q2, q3⟩ := HA.out.later HH.out.below Hs.out
          go_wp2_with fail
          refine (call_any t s 0 0 N _ hlay).mono ?_
          rintro r w6 ⟨rfl, hb6⟩
          have hc6 := Lib.hid ((hb6.cell (p := ⟨h5, j, none⟩) (World.block_lt_of_cell? w5 _ hc5)).trans hc5)
          replace HH := Lib.hid (HH.out.later hb6)
          clear hb6 hc5 q0 q1 q2 q3
          obtain ⟨q0, q1, q2, q3⟩ := HA.out.later HH.out.below Hs.out
          go_wp2_with fail
          refine (snphase_any W.heap.size _ b g k HH.out.sn).mono ?_
          rintro r w' ⟨rfl, rfl⟩
          rw [HP.out]
          go_wp2_with fail
          refine (call_any t s 0 0 N _ hlay).mono ?_
          rintro r w7 ⟨rfl, hb7⟩
          have hc7 := (hb7.cell (p := ⟨h5, j, none⟩) (World.block_lt_of_cell? w6 _ hc6.out)).trans hc6.out
          have hbf := Lib.hid (below_step' HB.out (HH.out.later hb7).below HB.out.size)
          clear hb7 q0 q1 q2 q3 hc6
          go_wp2
          go_ret
          exact ⟨rfl, hbf.out⟩

end Go.Proofs.Ytgpdoihgnpkanaa
