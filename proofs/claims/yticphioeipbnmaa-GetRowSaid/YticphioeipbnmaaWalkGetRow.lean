/-
  GetRow answers true for all lists and numbers, and leaves all memory that was there as it was. No condition.
-/
import Derived.Test.YticphioeipbnmaaGetMore
import Derived.Deep.DeepCutAuto
namespace Go.Proofs.Yticphioeipbnmaa
open Go.RowKit
set_option linter.unusedVariables false

set_option maxRecDepth 100000 in
set_option maxHeartbeats 8000000 in
theorem walk_GetRow (a0 : Int) (a1 : Int) (a2 : Int) (a3 : Option Addr) (len3 cap3 : Nat) (a4 : Option Addr) (len4 cap4 : Nat) (w : World) (w0 : (Lit.int .i64 a0).wf = true) (w1 : (Lit.int .i64 a1).wf = true) (w2 : (Lit.int .i64 a2).wf = true) (w3 : IsRows w [.inl .i64, .inl .i64, .inl .i64, .inl .i64, .inr true, .inl .u64] a3 len3 cap3) (w4 : IsRows w [.inr true] a4 len4 cap4) :
    Calls Try.prog 4 #[.int .i64 a0, .int .i64 a1, .int .i64 a2, .slice a3 len3 cap3, .slice a4 len4 cap4] w fun e w' => e = .returned (.bool true) ∧ Below w.heap.size w w' := by
  clear w0 w1 w2
  rcases Nat.lt_or_ge 64 len3 with hbig | hs3
  · have hbig' : (64 : Int) < (len3 : Int) := by omega
    clear w3 w4
    go_enter Try.func4, Try.ntmps4
    go_wp2_with fail
    refine (head11_any _).mono ?_
    rintro e w1 ⟨rfl, hb1⟩
    go_wp2_with fail
    go_ret
    exact ⟨rfl, hb1⟩
  have p3 : decide ((64 : Int) < (len3 : Int)) = false := decide_eq_false (by omega)
  rcases Nat.lt_or_ge 30 len4 with hbig | hs4
  · have hbig' : (30 : Int) < (len4 : Int) := by omega
    clear w3 w4
    go_enter Try.func4, Try.ntmps4
    go_wp2_with fail
    refine (head11_any _).mono ?_
    rintro e w1 ⟨rfl, hb1⟩
    go_wp2_with fail
    go_ret
    exact ⟨rfl, hb1⟩
  have p4 : decide ((30 : Int) < (len4 : Int)) = false := decide_eq_false (by omega)
  obtain ⟨tb, off, X, hX⟩ := rows_things w3
  have HX : Hid (IsThs w a3 len3 cap3 tb off X) := hX
  obtain ⟨eb, eoff, XE, hE⟩ := rows_bools w4
  have HE : Hid (IsBools w a4 len4 cap4 eb eoff XE) := hE
  obtain ⟨uw, huw, lw, gw⟩ : ∃ u, bits .and .i64 a2 65535 = u ∧ 0 ≤ u ∧ u ≤ 65535 := ⟨_, and_ffff a2, by omega, by omega⟩
  clear w3 w4 hX hE
  go_enter Try.func4, Try.ntmps4
  go_wp2_with fail
  refine (head11_any _).mono ?_
  rintro e w1 ⟨rfl, hb1⟩
  go_wp2_with fail
  refine (conf2_any _ _ _).mono ?_
  rintro e w2 ⟨t, s, rfl, t1, t2, s1, s2, hb2⟩
  have ht0 : (t == 0) = false := by simp; omega
  have hB2 := Lib.hid (below_step hb1 hb2)
  clear hb1 hb2
  obtain ⟨N, hNe, hlay, hN1, hN2⟩ := lay44 t1 t2 s1 s2
  have hn0 : ¬ N = 0 := by omega
  clear hNe
  go_wp2_with fail
  have hw0 := Int.emod_nonneg uw (show t ≠ 0 by omega)
  have hw1 := Int.emod_lt_of_pos uw (show 0 < t by omega)
  generalize uw % t = who at hw0 hw1 ⊢
  clear huw lw gw
  have hA := AtC.made w2 t s 0 0
  have hB3 := below_new (Below.refl w2.heap.size w2) (.cells #[.int .i64 t, .int .i64 s, .int .i64 0, .int .i64 0] 27)
  have hs3 : w2.heap.size < (w2.alloc (.cells #[.int .i64 t, .int .i64 s, .int .i64 0, .int .i64 0] 27)).heap.size := by simp
  have HA := Lib.hid hA
  have HB := Lib.hid (below_step hB2.out hB3)
  have Hs := Lib.hid hs3
  clear hA hB3 hs3 hB2
  generalize w2.alloc (.cells #[.int .i64 t, .int .i64 s, .int .i64 0, .int .i64 0] 27) = W at HA HB Hs ⊢
  generalize w2.heap.size = cb at HA Hs ⊢
  clear w2 w1
  obtain ⟨M, hM⟩ : ∃ M : Nat, 2 * (N : Int) + 2 * t = (M : Int) := ⟨(2 * (N : Int) + 2 * t).toNat, by omega⟩
  have HM := Lib.hid hM
  clear hM
  refine (things_any W.heap.size t s 0 0 N M HM.out a3 len3 cap3 tb off X _ hlay (Nat.le_refl _) (HX.out.later HB.out (fun i hi => (HX.out i hi).2.2.1))).mono ?_
  rintro r w3 ⟨p, c, v0, rfl, hM3, hb3, hf3⟩
  have HH1 : Hid (Hold W w3 [tMem W.heap.size p c v0 (thC X N (List.replicate M 0) (min N len3)) (thL X N (List.replicate M 0) (min N len3))]) := (Hold.nil (Below.refl _ _)).more hb3 (tMem_ok _ _ _ _ _ _) hM3 hf3
  clear hM3 hb3 hf3 HX
  obtain ⟨C0, hC0⟩ : ∃ C0, thC X N (List.replicate M 0) (min N len3) = C0 := ⟨_, rfl⟩
  obtain ⟨L0, hL0⟩ : ∃ L0, thL X N (List.replicate M 0) (min N len3) = L0 := ⟨_, rfl⟩
  have HCL : Hid ((C0.length : Int) = 2 * N + 2 * t) := by show _ = _; rw [← hC0, thC_len, List.length_replicate]; exact HM.out.symm
  have HLL : Hid (L0.length ≤ 100 + 0) := by show _ ≤ _; rw [← hL0, thL_len]; omega
  rw [hC0, hL0] at HH1
  have HC0F := Lib.hid (take_fit (Hold.first HH1.out).fit N)
  clear hC0 hL0
  obtain ⟨ws, hws⟩ : ∃ ws, C0.take N = ws := ⟨_, rfl⟩
  have Hws := Lib.hid hws
  have Hwl : Hid (ws.length = N) := by show _ = _; rw [← hws, List.length_take]; have := HCL.out; omega
  clear hws HC0F
  obtain ⟨q0, q1, q2, q3⟩ := HA.out.later HH1.out.below Hs.out
  go_wp2_with fail
  refine (words_at W.heap.size t s 0 0 N p c v0 C0 ws L0 _ hlay HH1.out.first (by have := HCL.out; omega) Hws.out Hwl.out).mono ?_
  rintro r w4 ⟨g, cap, rfl, hcap, hg1, hg2, hrow, hWW, hb4⟩
  have HW1 := Lib.hid hWW
  replace HH1 := Lib.hid (HH1.out.later hb4)
  clear hb4 hrow q0 q1 q2 q3 hg1 hg2 hWW
  go_wp2_with fail
  refine (row_at0 _ _ cap N ws Hwl.out HW1.out (by omega)).mono ?_
  rintro r w5 ⟨rb, rc, S0, rfl, hord, hown, hb5⟩
  have HORD : Hid (IsOrder (C0.take N) S0) := by show _; rw [Hws.out]; exact hord
  have HH3 : Hid (Hold W w5 [tMem W.heap.size p c v0 C0 L0, tRow W.heap.size 3 1 (.slice rb S0.length rc) S0.length (S0.map (fun i : Nat => i64 (i : Int)))]) := Hold.more HH1.out hb5 (tRow_ok _ _ _ _ _ _) (row_base hown HH1.out.size) (fun q hq => (hown.lt q hq).1)
  have hcp0 := ints_cap hown
  have HSB : Hid (SubAt rb S0 rb S0) := SubAt.start hown
  obtain ⟨hz, hhz⟩ : ∃ hz : Nat, (hz : Int) = 2 * N + who := ⟨(2 * N + who).toNat, by omega⟩
  have Hhz := Lib.hid hhz
  have HLL0 : Hid (L0.length ≤ 100 + 0 * 40) := HLL.out
  obtain ⟨l0, hl0⟩ : ∃ l, S0.length = l := ⟨_, rfl⟩
  have Hl0 := Lib.hid hl0
  rw [hl0] at hcp0
  clear hb5 HW1 hord hown HH1 hhz hl0 Hws Hwl HLL
  rw [Hl0.out]
  go_wp2_with fail
  go_loopw [13, 46] (fun vr i wr => ∃ (e : Nat) (C : List Int) (L : List Ev) (v : Value) (S : List Nat) (A : Option Addr) (ls cp : Nat), e ≤ len4 ∧ i = .int .i64 e ∧ vr = .slice A ls cp ∧ ls ≤ cp ∧ Hid (S.length = ls) ∧ Hid (SubAt rb S0 A S) ∧ Hid (Hold W wr [tMem W.heap.size p c v C L, tRow W.heap.size 3 1 (.slice rb S0.length rc) S0.length (S0.map (fun i : Nat => i64 (i : Int)))]) ∧ Hid (IsOrder (C.take N) S) ∧ Hid ((C.length : Int) = 2 * N + 2 * t) ∧ Hid (L.length ≤ 100 + e * 40)) (fun _ i _ => len4 - (intOf i).toNat)
  case atStart => exact ⟨0, C0, L0, v0, S0, rb, l0, rc, by omega, rfl, rfl, hcp0, Hl0, HSB, HH3, HORD, HCL, HLL0⟩
  case round =>
    clear HH3 HORD HCL HLL0 HSB hcp0 Hl0
    obtain ⟨e, C, L, v, S, A, ls, cp, he, rfl, rfl, hcp, HSl, HSub, HH, HORD, HCL, HLL⟩ := hrel
    rcases Nat.lt_or_ge e len4 with heN | heN
    · have heN' : (e : Int) < (len4 : Int) := by omega
      obtain ⟨ha4, hcap4, heb, hel⟩ := (HE.out.later (below_step' HB.out (Hold.below HH.out) HB.out.size) (fun i hi => (HE.out i hi).2.2.1)) e heN
      subst ha4
      obtain ⟨rr, hrr⟩ : ∃ rr, XE e = rr := ⟨_, rfl⟩
      rw [hrr] at hel
      clear hrr
      obtain ⟨q0, q1, q2, q3⟩ := HA.out.later (Hold.below HH.out) Hs.out
      obtain ⟨ee, hee, hee2⟩ : ∃ e : Int, (if rr then (1 : Int) else 0) = e ∧ (e = 0 ∨ e = 1) := ⟨_, rfl, by cases rr <;> simp⟩
      have Hee := Lib.hid hee
      clear hee
      go_wp2_with fail
      refine wp_region_seqS ((fun w' => AtC w' cb t s 0 0)) ((0, true) :: (1, true) :: (2, true) :: (4, true) :: (3, false) :: (5, false) :: (6, true) :: []) (by kernel_rfl) (by kernel_rfl) (by kernel_rfl) (by decide) (fun _ _ _ _ _ h => h) ((HA.out.later (Hold.below (Hold.drew HH.out)) Hs.out)) ?_
      replace HH := Lib.hid (Hold.drew HH.out)
      clear q0 q1 q2 q3 hel
      repeat (first | (refine seq_take (v := ?_) rfl ?_ ?_ ?_; rotate_left 1; rfl; (focus (intro wS hSw; obtain ⟨k0, k1, k2, k3⟩ := hSw; go_simp; first | done | with_reducible rfl)); (try simp only [Act.put, List.setIfInBounds_toArray, List.set_cons_zero, List.set_cons_succ])) | (refine seq_skip rfl ?_ ?_; rfl; (try simp only [Act.put, List.setIfInBounds_toArray, List.set_cons_zero, List.set_cons_succ])))
      refine seq_run rfl (fun K hK => ?_)
      go_simp
      go_at_call 11
      refine (end_at rr ee _ Hee.out).mono ?_
      rintro r w7 ⟨rfl, hb7⟩
      (try go_wp2_with fail)
      replace HH := Lib.hid (Hold.later HH.out hb7)
      clear hb7
      refine hK.out _ _ ((HA.out.later (Hold.below HH.out) Hs.out)) (fun _ => ?_)
      (try simp only [Act.put, List.setIfInBounds_toArray, List.set_cons_zero, List.set_cons_succ])
      clear hK K
      repeat (first | (refine seq_take (v := ?_) rfl ?_ ?_ ?_; rotate_left 1; rfl; (focus (intro wS hSw; obtain ⟨k0, k1, k2, k3⟩ := hSw; go_simp; first | done | with_reducible rfl)); (try simp only [Act.put, List.setIfInBounds_toArray, List.set_cons_zero, List.set_cons_succ])) | (refine seq_skip rfl ?_ ?_; rfl; (try simp only [Act.put, List.setIfInBounds_toArray, List.set_cons_zero, List.set_cons_succ])))
      refine seq_run rfl (fun K hK => ?_)
      go_simp
      go_at_call 10
      refine (genew_any W.heap.size _ N t s 0 0 who ee (e : Int) hlay (Hold.size HH.out)).mono ?_
      rintro r w8 ⟨b, bs, gs, rfl, hS8, hb8, hbb8⟩
      (try go_wp2_with fail)
      have HFC : Hid (∀ j, 0 ≤ C.getD j 0 ∧ C.getD j 0 ≤ 18446744073709551615) := HH.out.first.fit
      have HH5 : Hid (GeH W w8 p c C L b (ge0 t s 0 0 who ee (e : Int) N) [tRow W.heap.size 3 1 (.slice rb S0.length rc) S0.length (S0.map (fun i : Nat => i64 (i : Int)))]) := GeH.begun2 HH.out hb8 hS8 hbb8
      clear hS8 hb8 hbb8 HH
      refine hK.out _ _ ((HA.out.later HH5.out.below Hs.out)) (fun _ => ?_)
      (try simp only [Act.put, List.setIfInBounds_toArray, List.set_cons_zero, List.set_cons_succ])
      clear hK K
      repeat (first | (refine seq_take (v := ?_) rfl ?_ ?_ ?_; rotate_left 1; rfl; (focus (intro wS hSw; obtain ⟨k0, k1, k2, k3⟩ := hSw; go_simp; first | done | with_reducible rfl)); (try simp only [Act.put, List.setIfInBounds_toArray, List.set_cons_zero, List.set_cons_succ])) | (refine seq_skip rfl ?_ ?_; rfl; (try simp only [Act.put, List.setIfInBounds_toArray, List.set_cons_zero, List.set_cons_succ])))
      refine seq_done ?_
      have HG0 : Hid (GX (ge0 t s 0 0 who ee (e : Int) N) C C N hz 0 ee) := GX.start hlay HCL.out Hhz.out hw0 hw1 hee2
      have HL0 : Hid (L.length ≤ 100 + e * 40 + 0) := HLL.out
      clear HLL
      go_wp2_with fail
      go_loopw [17] (fun i wr => ∃ (n : Nat) (k : Ge) (C1 : List Int) (L1 : List Ev), n ≤ 2 * N + 5 ∧ i = .int .i64 n ∧ Hid (GeH W wr p c C1 L1 b k [tRow W.heap.size 3 1 (.slice rb S0.length rc) S0.length (S0.map (fun i : Nat => i64 (i : Int)))]) ∧ Hid (GX k C1 C N hz n ee) ∧ Hid (L1.length ≤ 100 + e * 40 + n)) (fun i _ => 100 - (intOf i).toNat)
      case atStart => exact ⟨0, _, _, _, by omega, rfl, HH5, HG0, HL0⟩
      case round =>
        clear HH5 HG0 HL0
        obtain ⟨n, k, C1, L1, hn, rfl, HH, HG, HL⟩ := hrel
        obtain ⟨q0, q1, q2, q3⟩ := HA.out.later HH.out.below Hs.out
        go_wp2_with fail
        refine (gealone_any _ N t s 0 0 hlay (by omega)).mono ?_
        rintro r w9 ⟨rfl, hb9⟩
        replace HH := Lib.hid (HH.out.later hb9)
        clear hb9 q0 q1 q2 q3
        rcases Nat.lt_or_ge n (2 * N + 5) with hnN | hnN
        · have hnn : (n : Int) < 2 * (N : Int) + 5 := by omega
          have HF := Lib.hid HH.out.fit
          go_wp2_with fail
          refine (HH.out.call HG.out.ok (by have := HL.out; omega)).mono ?_
          rintro r wr3 ⟨z, hz3, rfl, hH⟩
          have HG2 := Lib.hid (HG.out.step hz3 HF.out)
          have HH2 := Lib.hid hH
          have HL2 := Lib.hid (Ge.ev_le k N hz C1)
          clear hH hz3 HG HH HF
          go_wp2_with fail
          go_roundw
          case rel => exact ⟨n + 1, _, _, _, by omega, by go_num, HH2, HG2, by have := HL.out; have := HL2.out; show _ ≤ _; rw [List.length_append]; omega⟩
          case measure => first | omega | (simp [intOf]; done) | (simp [intOf]; omega)
        · have hnn : ¬ (n : Int) < 2 * (N : Int) + 5 := by omega
          have HL3 : Hid (L1.length ≤ 100 + (e + 1) * 40) := by have := HL.out; show _ ≤ _; omega
          rcases HG.out.done hnN with ⟨hph, hval, hE, hC, _⟩ | ⟨j, hph, hj, hE, hval, hta, hC, _⟩
          · have hS : S = [] := by
              rcases end_of_order HORD.out hE with ⟨h, _⟩ | ⟨j, h, _⟩
              · exact h
              · omega
            obtain rfl : ls = 0 := by have := HSl.out; rw [hS] at this; exact this.symm
            have HPP := Lib.hid hph
            have HCC := Lib.hid hC
            clear hph hval hE hC hS HG HL
            go_wp2_with fail
            refine (HH.out.phase 2 HPP.out).mono ?_
            rintro r wr4 ⟨rfl, hb⟩
            replace HH := Lib.hid (HH.out.later hb)
            clear hb
            go_wp2_with fail
            go_roundw
            case rel =>
              obtain ⟨v2, hh⟩ := HH.out.rest
              rw [HCC.out] at hh
              exact ⟨e + 1, C, L1, v2, S, A, 0, cp, by omega, by go_num, rfl, by omega, HSl, HSub, hh, HORD, HCL, HL3⟩
            case measure => first | omega | (simp [intOf]; done) | (simp [intOf]; omega)
          · obtain ⟨f1, f2, f3⟩ := tkW_fit (HFC.out j).1 (HFC.out j).2
            obtain ⟨o1, o2, o3, o4⟩ := order_less HORD.out hE f1
            obtain ⟨S1, hS1⟩ : ∃ S1, lessS ee S = S1 := ⟨_, rfl⟩
            rw [hS1] at o1 o2 o3 o4
            have HORD1 : Hid (IsOrder (C1.take N) S1) := by show _; rw [hC, done_words (by have := Hhz.out; omega)]; exact o1
            have HO3 := Lib.hid o3
            have HO4 := Lib.hid o4
            have HCL1 : Hid ((C1.length : Int) = 2 * N + 2 * t) := by show _ = _; rw [HG.out.len]; exact HCL.out
            obtain ⟨y, hy⟩ : ∃ y, C.getD (N + j) 0 = y := ⟨_, rfl⟩
            have HVY : Hid (k.val = y) := hval.trans hy
            have HPV : Hid (C1[N + j]? = some y) := by
              have h1 := getD_at (C := C1) (i := N + j) (by have := HCL1.out; omega)
              show _ = _
              have h2 : C1.getD (N + j) 0 = y := by
                rw [hC, ← hy]
                exact GX.vals (N := N) (by have := Hhz.out; omega) (by omega)
              rw [h1, h2]
            have HPP := Lib.hid hph
            have HTA := Lib.hid hta
            have hls1 : ls = S1.length + 1 := HSl.out.symm.trans o2
            have HLS1 : Hid (S1.length = ls - 1) := by show _ = _; omega
            have hlp : 0 < ls := by omega
            have hlsN : ls ≤ 16 := by have := HORD.out.len; rw [List.length_take] at this; have := HSl.out; omega
            obtain ⟨v2, hh⟩ := HH.out.rest
            obtain ⟨ga, ao, rfl, hsub, hc0, hci⟩ := HSub.out.cells (Hold.has hh 1 _ rfl) (by have := HSl.out; omega)
            have HSub2 : Hid (SubAt rb S0 (some ⟨ga, ao, none⟩) S) := HSub.out
            obtain ⟨m, hm⟩ : ∃ m, ls = m + 1 := ⟨ls - 1, by omega⟩
            have hc1 := hci m (by have := HSl.out; omega)
            have hlz : ¬ (ls : Int) = 0 := by omega
            have hlz' : (0 : Int) < (ls : Int) := by omega
            have HJ9 : Hid ((0 : Int) ≤ (j : Int) ∧ (j : Int) ≤ (N : Int)) := by show _ ∧ _; omega
            clear hh hsub hci HSub hph hta hval hE hC hy f1 f2 f3 o1 o2 o3 o4 hS1 HORD HCL HG HL hls1
            cases rr
            · have he0 : ee = 0 := Hee.out.symm
              have hS2 := HO3.out he0
              have HS2 := Lib.hid hS2
              have HMM := Lib.hid hm
              rw [hS2] at hc0
              replace hc0 : w9.cell? ⟨ga, ao, none⟩ = some (i64 (j : Nat)) := hc0
              clear he0 hS2 hc1 hm
              rcases Nat.lt_or_ge 1 cp with hc2 | hc2
              · skip
                go_wp2_with fail
                refine wp_region_seqS ((fun w' => AtC w' cb t s 0 0)) ((0, true) :: (1, false) :: (2, true) :: (3, true) :: (4, true) :: (6, true) :: (7, true) :: (8, true) :: (5, false) :: (9, false) :: (10, false) :: (11, true) :: (12, true) :: []) (by kernel_rfl) (by kernel_rfl) (by kernel_rfl) (by decide) (fun _ _ _ _ _ h => h) ((HA.out.later HH.out.drew.below Hs.out)) ?_
                replace HH := Lib.hid HH.out.drew
                repeat (first | (refine seq_take (v := ?_) rfl ?_ ?_ ?_; rotate_left 1; rfl; (focus (intro wS hSw; obtain ⟨k0, k1, k2, k3⟩ := hSw; go_simp; first | done | with_reducible rfl)); (try simp only [Act.put, List.setIfInBounds_toArray, List.set_cons_zero, List.set_cons_succ])) | (refine seq_skip rfl ?_ ?_; rfl; (try simp only [Act.put, List.setIfInBounds_toArray, List.set_cons_zero, List.set_cons_succ])))
                refine seq_run rfl (fun K hK => ?_)
                go_simp
                go_at_call 30
                refine (HH.out.phase 1 HPP.out).mono ?_
                rintro r w10 ⟨rfl, hb⟩
                (try go_wp2_with fail)
                replace HH := Lib.hid (HH.out.later hb)
                clear hb
                refine hK.out _ _ ((HA.out.later HH.out.below Hs.out)) (fun _ => ?_)
                (try simp only [Act.put, List.setIfInBounds_toArray, List.set_cons_zero, List.set_cons_succ])
                clear hK K
                repeat (first | (refine seq_take (v := ?_) rfl ?_ ?_ ?_; rotate_left 1; rfl; (focus (intro wS hSw; obtain ⟨k0, k1, k2, k3⟩ := hSw; go_simp; first | done | with_reducible rfl)); (try simp only [Act.put, List.setIfInBounds_toArray, List.set_cons_zero, List.set_cons_succ])) | (refine seq_skip rfl ?_ ?_; rfl; (try simp only [Act.put, List.setIfInBounds_toArray, List.set_cons_zero, List.set_cons_succ])))
                refine seq_run rfl (fun K hK => ?_)
                go_simp
                go_at_call 28
                refine (HH.out.value y HVY.out (fun _ => HTA.out)).mono ?_
                rintro r w11 ⟨rfl, hb⟩
                (try go_wp2_with fail)
                replace HH := Lib.hid (HH.out.later hb)
                clear hb
                refine hK.out _ _ ((HA.out.later HH.out.below Hs.out)) (fun _ => ?_)
                (try simp only [Act.put, List.setIfInBounds_toArray, List.set_cons_zero, List.set_cons_succ])
                clear hK K
                repeat (first | (refine seq_take (v := ?_) rfl ?_ ?_ ?_; rotate_left 1; rfl; (focus (intro wS hSw; obtain ⟨k0, k1, k2, k3⟩ := hSw; go_simp; first | done | with_reducible rfl)); (try simp only [Act.put, List.setIfInBounds_toArray, List.set_cons_zero, List.set_cons_succ])) | (refine seq_skip rfl ?_ ?_; rfl; (try simp only [Act.put, List.setIfInBounds_toArray, List.set_cons_zero, List.set_cons_succ])))
                refine seq_run rfl (fun K hK => ?_)
                go_simp
                go_at_call 18
                refine (gvalue_at t s 0 0 N j (N + j) _ hlay HJ9.out.1 HJ9.out.2 (by omega)).mono ?_
                rintro r w12 ⟨rfl, hb⟩
                (try go_wp2_with fail)
                replace HH := Lib.hid (HH.out.later hb)
                clear hb
                refine hK.out _ _ ((HA.out.later HH.out.below Hs.out)) (fun _ => ?_)
                (try simp only [Act.put, List.setIfInBounds_toArray, List.set_cons_zero, List.set_cons_succ])
                clear hK K
                repeat (first | (refine seq_take (v := ?_) rfl ?_ ?_ ?_; rotate_left 1; rfl; (focus (intro wS hSw; obtain ⟨k0, k1, k2, k3⟩ := hSw; go_simp; first | done | with_reducible rfl)); (try simp only [Act.put, List.setIfInBounds_toArray, List.set_cons_zero, List.set_cons_succ])) | (refine seq_skip rfl ?_ ?_; rfl; (try simp only [Act.put, List.setIfInBounds_toArray, List.set_cons_zero, List.set_cons_succ])))
                refine seq_run rfl (fun K hK => ?_)
                go_simp
                go_at_call 33
                obtain ⟨v3, hm3⟩ := HH.out.mem
                refine (quiet_below (peek_in W.heap.size _ p c _ _ _ (N + j) y hm3 HPV.out)).mono ?_
                rintro r w13 ⟨rfl, hb⟩
                (try go_wp2_with fail)
                replace HH := Lib.hid (HH.out.later hb)
                clear hb hm3
                refine hK.out _ _ ((HA.out.later HH.out.below Hs.out)) (fun _ => ?_)
                (try simp only [Act.put, List.setIfInBounds_toArray, List.set_cons_zero, List.set_cons_succ])
                clear hK K
                repeat (first | (refine seq_take (v := ?_) rfl ?_ ?_ ?_; rotate_left 1; rfl; (focus (intro wS hSw; obtain ⟨k0, k1, k2, k3⟩ := hSw; go_simp; first | done | with_reducible rfl)); (try simp only [Act.put, List.setIfInBounds_toArray, List.set_cons_zero, List.set_cons_succ])) | (refine seq_skip rfl ?_ ?_; rfl; (try simp only [Act.put, List.setIfInBounds_toArray, List.set_cons_zero, List.set_cons_succ])))
                refine seq_done ?_
                go_wp2_with fail
                go_roundw
                case rel =>
                  obtain ⟨v4, hh⟩ := HH.out.rest
                  exact ⟨e + 1, C1, L1, v4, S1, _, _, _, by omega, by go_num, rfl, by omega, HLS1, (by
                    have h : SubAt rb S0 (some ⟨ga, ao, none⟩) (j :: S1) := by have := HSub2.out; rwa [HS2.out] at this
                    exact SubAt.tail h (fun h0 => rfl)), hh, HORD1, HCL1, HL3⟩
                case measure => first | omega | (simp [intOf]; done) | (simp [intOf]; omega)
              · obtain rfl : cp = 1 := by omega
                obtain rfl : ls = 1 := by omega
                go_wp2_with fail
                refine wp_region_seqS ((fun w' => AtC w' cb t s 0 0)) ((0, true) :: (1, false) :: (2, true) :: (3, true) :: (4, true) :: (6, true) :: (7, true) :: (8, true) :: (5, false) :: (9, false) :: (10, false) :: (11, true) :: (12, true) :: []) (by kernel_rfl) (by kernel_rfl) (by kernel_rfl) (by decide) (fun _ _ _ _ _ h => h) ((HA.out.later HH.out.drew.below Hs.out)) ?_
                replace HH := Lib.hid HH.out.drew
                repeat (first | (refine seq_take (v := ?_) rfl ?_ ?_ ?_; rotate_left 1; rfl; (focus (intro wS hSw; obtain ⟨k0, k1, k2, k3⟩ := hSw; go_simp; first | done | with_reducible rfl)); (try simp only [Act.put, List.setIfInBounds_toArray, List.set_cons_zero, List.set_cons_succ])) | (refine seq_skip rfl ?_ ?_; rfl; (try simp only [Act.put, List.setIfInBounds_toArray, List.set_cons_zero, List.set_cons_succ])))
                refine seq_run rfl (fun K hK => ?_)
                go_simp
                go_at_call 30
                refine (HH.out.phase 1 HPP.out).mono ?_
                rintro r w10 ⟨rfl, hb⟩
                (try go_wp2_with fail)
                replace HH := Lib.hid (HH.out.later hb)
                clear hb
                refine hK.out _ _ ((HA.out.later HH.out.below Hs.out)) (fun _ => ?_)
                (try simp only [Act.put, List.setIfInBounds_toArray, List.set_cons_zero, List.set_cons_succ])
                clear hK K
                repeat (first | (refine seq_take (v := ?_) rfl ?_ ?_ ?_; rotate_left 1; rfl; (focus (intro wS hSw; obtain ⟨k0, k1, k2, k3⟩ := hSw; go_simp; first | done | with_reducible rfl)); (try simp only [Act.put, List.setIfInBounds_toArray, List.set_cons_zero, List.set_cons_succ])) | (refine seq_skip rfl ?_ ?_; rfl; (try simp only [Act.put, List.setIfInBounds_toArray, List.set_cons_zero, List.set_cons_succ])))
                refine seq_run rfl (fun K hK => ?_)
                go_simp
                go_at_call 28
                refine (HH.out.value y HVY.out (fun _ => HTA.out)).mono ?_
                rintro r w11 ⟨rfl, hb⟩
                (try go_wp2_with fail)
                replace HH := Lib.hid (HH.out.later hb)
                clear hb
                refine hK.out _ _ ((HA.out.later HH.out.below Hs.out)) (fun _ => ?_)
                (try simp only [Act.put, List.setIfInBounds_toArray, List.set_cons_zero, List.set_cons_succ])
                clear hK K
                repeat (first | (refine seq_take (v := ?_) rfl ?_ ?_ ?_; rotate_left 1; rfl; (focus (intro wS hSw; obtain ⟨k0, k1, k2, k3⟩ := hSw; go_simp; first | done | with_reducible rfl)); (try simp only [Act.put, List.setIfInBounds_toArray, List.set_cons_zero, List.set_cons_succ])) | (refine seq_skip rfl ?_ ?_; rfl; (try simp only [Act.put, List.setIfInBounds_toArray, List.set_cons_zero, List.set_cons_succ])))
                refine seq_run rfl (fun K hK => ?_)
                go_simp
                go_at_call 18
                refine (gvalue_at t s 0 0 N j (N + j) _ hlay HJ9.out.1 HJ9.out.2 (by omega)).mono ?_
                rintro r w12 ⟨rfl, hb⟩
                (try go_wp2_with fail)
                replace HH := Lib.hid (HH.out.later hb)
                clear hb
                refine hK.out _ _ ((HA.out.later HH.out.below Hs.out)) (fun _ => ?_)
                (try simp only [Act.put, List.setIfInBounds_toArray, List.set_cons_zero, List.set_cons_succ])
                clear hK K
                repeat (first | (refine seq_take (v := ?_) rfl ?_ ?_ ?_; rotate_left 1; rfl; (focus (intro wS hSw; obtain ⟨k0, k1, k2, k3⟩ := hSw; go_simp; first | done | with_reducible rfl)); (try simp only [Act.put, List.setIfInBounds_toArray, List.set_cons_zero, List.set_cons_succ])) | (refine seq_skip rfl ?_ ?_; rfl; (try simp only [Act.put, List.setIfInBounds_toArray, List.set_cons_zero, List.set_cons_succ])))
                refine seq_run rfl (fun K hK => ?_)
                go_simp
                go_at_call 33
                obtain ⟨v3, hm3⟩ := HH.out.mem
                refine (quiet_below (peek_in W.heap.size _ p c _ _ _ (N + j) y hm3 HPV.out)).mono ?_
                rintro r w13 ⟨rfl, hb⟩
                (try go_wp2_with fail)
                replace HH := Lib.hid (HH.out.later hb)
                clear hb hm3
                refine hK.out _ _ ((HA.out.later HH.out.below Hs.out)) (fun _ => ?_)
                (try simp only [Act.put, List.setIfInBounds_toArray, List.set_cons_zero, List.set_cons_succ])
                clear hK K
                repeat (first | (refine seq_take (v := ?_) rfl ?_ ?_ ?_; rotate_left 1; rfl; (focus (intro wS hSw; obtain ⟨k0, k1, k2, k3⟩ := hSw; go_simp; first | done | with_reducible rfl)); (try simp only [Act.put, List.setIfInBounds_toArray, List.set_cons_zero, List.set_cons_succ])) | (refine seq_skip rfl ?_ ?_; rfl; (try simp only [Act.put, List.setIfInBounds_toArray, List.set_cons_zero, List.set_cons_succ])))
                refine seq_done ?_
                go_wp2_with fail
                go_roundw
                case rel =>
                  obtain ⟨v4, hh⟩ := HH.out.rest
                  exact ⟨e + 1, C1, L1, v4, S1, _, _, _, by omega, by go_num, rfl, by omega, HLS1, (by
                    have h : SubAt rb S0 (some ⟨ga, ao, none⟩) (j :: S1) := by have := HSub2.out; rwa [HS2.out] at this
                    exact SubAt.tail h (fun h0 => by have := HLS1.out; omega)), hh, HORD1, HCL1, HL3⟩
                case measure => first | omega | (simp [intOf]; done) | (simp [intOf]; omega)
            · have he1 : ¬ ee = 0 := by have : (1 : Int) = ee := Hee.out; omega
              have hS2 := HO4.out he1
              have HS2 := Lib.hid hS2
              have HMM := Lib.hid hm
              have hjm : S.getD m 0 = j := by
                have h1 : S1.length = m := by have := HLS1.out; omega
                rw [hS2, ← h1]
                simp
              rw [hjm] at hc1
              rw [show m = ls - 1 by omega] at hc1
              have hix : wrap64 ((ls : Int) - 1) = (m : Int) := by unfold wrap64; omega
              have hlt : (m : Int) < (ls : Int) := by omega
              have hmc : (m : Int) ≤ (cp : Int) := by omega
              have hmc' : m ≤ cp := by omega
              obtain ⟨x0, hx0⟩ : ∃ x0, S.getD 0 0 = x0 := ⟨_, rfl⟩
              rw [hx0] at hc0
              clear he1 hS2 hm hjm hx0
              go_wp2_with fail
              refine wp_region_seqS ((fun w' => AtC w' cb t s 0 0)) ((0, true) :: (1, false) :: (2, true) :: (3, true) :: (4, true) :: (6, true) :: (7, true) :: (8, true) :: (5, false) :: (9, false) :: (10, false) :: (11, true) :: (12, true) :: []) (by kernel_rfl) (by kernel_rfl) (by kernel_rfl) (by decide) (fun _ _ _ _ _ h => h) ((HA.out.later HH.out.drew.below Hs.out)) ?_
              replace HH := Lib.hid HH.out.drew
              repeat (first | (refine seq_take (v := ?_) rfl ?_ ?_ ?_; rotate_left 1; rfl; (focus (intro wS hSw; obtain ⟨k0, k1, k2, k3⟩ := hSw; go_simp; first | done | with_reducible rfl)); (try simp only [Act.put, List.setIfInBounds_toArray, List.set_cons_zero, List.set_cons_succ])) | (refine seq_skip rfl ?_ ?_; rfl; (try simp only [Act.put, List.setIfInBounds_toArray, List.set_cons_zero, List.set_cons_succ])))
              refine seq_run rfl (fun K hK => ?_)
              go_simp
              go_at_call 30
              refine (HH.out.phase 1 HPP.out).mono ?_
              rintro r w10 ⟨rfl, hb⟩
              (try go_wp2_with fail)
              replace HH := Lib.hid (HH.out.later hb)
              clear hb
              refine hK.out _ _ ((HA.out.later HH.out.below Hs.out)) (fun _ => ?_)
              (try simp only [Act.put, List.setIfInBounds_toArray, List.set_cons_zero, List.set_cons_succ])
              clear hK K
              repeat (first | (refine seq_take (v := ?_) rfl ?_ ?_ ?_; rotate_left 1; rfl; (focus (intro wS hSw; obtain ⟨k0, k1, k2, k3⟩ := hSw; go_simp; first | done | with_reducible rfl)); (try simp only [Act.put, List.setIfInBounds_toArray, List.set_cons_zero, List.set_cons_succ])) | (refine seq_skip rfl ?_ ?_; rfl; (try simp only [Act.put, List.setIfInBounds_toArray, List.set_cons_zero, List.set_cons_succ])))
              refine seq_run rfl (fun K hK => ?_)
              go_simp
              go_at_call 28
              refine (HH.out.value y HVY.out (fun _ => HTA.out)).mono ?_
              rintro r w11 ⟨rfl, hb⟩
              (try go_wp2_with fail)
              replace HH := Lib.hid (HH.out.later hb)
              clear hb
              refine hK.out _ _ ((HA.out.later HH.out.below Hs.out)) (fun _ => ?_)
              (try simp only [Act.put, List.setIfInBounds_toArray, List.set_cons_zero, List.set_cons_succ])
              clear hK K
              repeat (first | (refine seq_take (v := ?_) rfl ?_ ?_ ?_; rotate_left 1; rfl; (focus (intro wS hSw; obtain ⟨k0, k1, k2, k3⟩ := hSw; go_simp; first | done | with_reducible rfl)); (try simp only [Act.put, List.setIfInBounds_toArray, List.set_cons_zero, List.set_cons_succ])) | (refine seq_skip rfl ?_ ?_; rfl; (try simp only [Act.put, List.setIfInBounds_toArray, List.set_cons_zero, List.set_cons_succ])))
              refine seq_run rfl (fun K hK => ?_)
              go_simp
              go_at_call 18
              refine (gvalue_at t s 0 0 N j (N + j) _ hlay HJ9.out.1 HJ9.out.2 (by omega)).mono ?_
              rintro r w12 ⟨rfl, hb⟩
              (try go_wp2_with fail)
              replace HH := Lib.hid (HH.out.later hb)
              clear hb
              refine hK.out _ _ ((HA.out.later HH.out.below Hs.out)) (fun _ => ?_)
              (try simp only [Act.put, List.setIfInBounds_toArray, List.set_cons_zero, List.set_cons_succ])
              clear hK K
              repeat (first | (refine seq_take (v := ?_) rfl ?_ ?_ ?_; rotate_left 1; rfl; (focus (intro wS hSw; obtain ⟨k0, k1, k2, k3⟩ := hSw; go_simp; first | done | with_reducible rfl)); (try simp only [Act.put, List.setIfInBounds_toArray, List.set_cons_zero, List.set_cons_succ])) | (refine seq_skip rfl ?_ ?_; rfl; (try simp only [Act.put, List.setIfInBounds_toArray, List.set_cons_zero, List.set_cons_succ])))
              refine seq_run rfl (fun K hK => ?_)
              go_simp
              go_at_call 33
              obtain ⟨v3, hm3⟩ := HH.out.mem
              refine (quiet_below (peek_in W.heap.size _ p c _ _ _ (N + j) y hm3 HPV.out)).mono ?_
              rintro r w13 ⟨rfl, hb⟩
              (try go_wp2_with fail)
              replace HH := Lib.hid (HH.out.later hb)
              clear hb hm3
              refine hK.out _ _ ((HA.out.later HH.out.below Hs.out)) (fun _ => ?_)
              (try simp only [Act.put, List.setIfInBounds_toArray, List.set_cons_zero, List.set_cons_succ])
              clear hK K
              repeat (first | (refine seq_take (v := ?_) rfl ?_ ?_ ?_; rotate_left 1; rfl; (focus (intro wS hSw; obtain ⟨k0, k1, k2, k3⟩ := hSw; go_simp; first | done | with_reducible rfl)); (try simp only [Act.put, List.setIfInBounds_toArray, List.set_cons_zero, List.set_cons_succ])) | (refine seq_skip rfl ?_ ?_; rfl; (try simp only [Act.put, List.setIfInBounds_toArray, List.set_cons_zero, List.set_cons_succ])))
              refine seq_done ?_
              go_wp2_with fail
              go_roundw
              case rel =>
                obtain ⟨v4, hh⟩ := HH.out.rest
                exact ⟨e + 1, C1, L1, v4, S1, _, _, _, by omega, by go_num, rfl, by omega, (by first | exact HLS1 | (have := HLS1.out; have := HMM.out; show _ = _; omega)), (by
                  have h : SubAt rb S0 (some ⟨ga, ao, none⟩) (S1 ++ [j]) := by have := HSub2.out; rwa [HS2.out] at this
                  exact SubAt.init h), hh, HORD1, HCL1, HL3⟩
              case measure => first | omega | (simp [intOf]; done) | (simp [intOf]; omega)
    · have heN' : ¬ (e : Int) < (len4 : Int) := by omega
      go_wp2_with fail
      go_ret
      exact ⟨rfl, below_step' HB.out (Hold.below HH.out) HB.out.size⟩

end Go.Proofs.Yticphioeipbnmaa
