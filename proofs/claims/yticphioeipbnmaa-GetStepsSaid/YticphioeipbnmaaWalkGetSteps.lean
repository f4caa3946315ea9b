/-
  GetSteps answers true for all lists and numbers, and leaves all memory that was there as it was. No condition.
-/
import Derived.Test.YticphioeipbnmaaGetStepsPure
import Derived.Deep.DeepCutAuto
import Derived.Deep.CutBlock
namespace Go.Proofs.Yticphioeipbnmaa
open Go.RowKit
set_option linter.unusedVariables false

set_option maxRecDepth 100000 in
set_option maxHeartbeats 8000000 in
theorem walk_GetSteps (a0 : Int) (a1 : Int) (a2 : Int) (a3 : Int) (a4 : Bool) (a5 : Option Addr) (len5 cap5 : Nat) (a6 : Option Addr) (len6 cap6 : Nat) (w : World) (w0 : (Lit.int .i64 a0).wf = true) (w1 : (Lit.int .i64 a1).wf = true) (w2 : (Lit.int .i64 a2).wf = true) (w3 : (Lit.int .i64 a3).wf = true) (w5 : IsRows w [.inl .i64, .inl .i64, .inl .i64, .inl .i64, .inr true, .inl .u64] a5 len5 cap5) (w6 : IsRows w [.inl .i64, .inl .i64, .inl .i64, .inl .i64, .inl .i64, .inl .i64, .inr true, .inl .u64] a6 len6 cap6) :
    Calls Try.prog 3 #[.int .i64 a0, .int .i64 a1, .int .i64 a2, .int .i64 a3, .bool a4, .slice a5 len5 cap5, .slice a6 len6 cap6] w fun e w' => e = .returned (.bool true) ∧ Below w.heap.size w w' := by
  clear w0 w1 w2 w3
  rcases Nat.lt_or_ge 64 len5 with hbig | hs5
  · have hbig' : (64 : Int) < (len5 : Int) := by omega
    clear w5 w6
    go_enter Try.func3, Try.ntmps3
    go_wp2_with fail
    refine (head11_any _).mono ?_
    rintro e w1 ⟨rfl, hb1⟩
    go_wp2_with fail
    go_ret
    exact ⟨rfl, hb1⟩
  have p5 : decide ((64 : Int) < (len5 : Int)) = false := decide_eq_false (by omega)
  rcases Nat.lt_or_ge 40 len6 with hbig | hs6
  · have hbig' : (40 : Int) < (len6 : Int) := by omega
    clear w5 w6
    go_enter Try.func3, Try.ntmps3
    go_wp2_with fail
    refine (head11_any _).mono ?_
    rintro e w1 ⟨rfl, hb1⟩
    go_wp2_with fail
    go_ret
    exact ⟨rfl, hb1⟩
  have p6 : decide ((40 : Int) < (len6 : Int)) = false := decide_eq_false (by omega)
  obtain ⟨tb, off, X, hX⟩ := rows_things w5
  have HX : Hid (IsThs w a5 len5 cap5 tb off X) := hX
  obtain ⟨ub, uoff, Y, hY⟩ := rows_turn8 w6
  have HY : Hid (IsTn w a6 len6 cap6 ub uoff Y) := hY
  obtain ⟨uw, huw, lw, gw⟩ : ∃ u, bits .and .i64 a2 65535 = u ∧ 0 ≤ u ∧ u ≤ 65535 := ⟨_, and_ffff a2, by omega, by omega⟩
  clear w5 w6 hX hY
  go_enter Try.func3, Try.ntmps3
  go_wp2_with fail
  refine (head11_any _).mono ?_
  rintro e w1 ⟨rfl, hb1⟩
  go_wp2_with fail
  refine (conf2_any _ _ _).mono ?_
  rintro e w2 ⟨t, s, rfl, t1, t2, s1, s2, hb2⟩
  have ht0 : (t == 0) = false := by simp; omega
  have hB2 := Lib.hid (below_step hb1 hb2)
  clear hb1 hb2
  obtain ⟨N, hNe, hlay, hN1, hN2⟩ := lay44 t1 t2 s1 s2
  have hn0 : ¬ N = 0 := by omega
  clear hNe
  go_wp2_with fail
  have hw0 := Int.emod_nonneg uw (show t ≠ 0 by omega)
  have hw1 := Int.emod_lt_of_pos uw (show 0 < t by omega)
  generalize uw % t = who at hw0 hw1 ⊢
  clear huw lw gw
  have hA := AtC.made w2 t s 0 0
  have hB3 := below_new (Below.refl w2.heap.size w2) (.cells #[.int .i64 t, .int .i64 s, .int .i64 0, .int .i64 0] 27)
  have hs3 : w2.heap.size < (w2.alloc (.cells #[.int .i64 t, .int .i64 s, .int .i64 0, .int .i64 0] 27)).heap.size := by simp
  have HA := Lib.hid hA
  have HB := Lib.hid (below_step hB2.out hB3)
  have Hs := Lib.hid hs3
  clear hA hB3 hs3 hB2
  generalize w2.alloc (.cells #[.int .i64 t, .int .i64 s, .int .i64 0, .int .i64 0] 27) = W at HA HB Hs ⊢
  generalize w2.heap.size = cb at HA Hs ⊢
  clear w2 w1
  obtain ⟨M, hM⟩ : ∃ M : Nat, 2 * (N : Int) + 2 * t = (M : Int) := ⟨(2 * (N : Int) + 2 * t).toNat, by omega⟩
  have HM := Lib.hid hM
  clear hM
  refine (things_any W.heap.size t s 0 0 N M HM.out a5 len5 cap5 tb off X _ hlay (Nat.le_refl _) (HX.out.later HB.out (fun i hi => (HX.out i hi).2.2.1))).mono ?_
  rintro r w3 ⟨p, c, v0, rfl, hM3, hb3, hf3⟩
  have HH0 : Hid (Hold W w3 [tMem W.heap.size p c v0 (thC X N (List.replicate M 0) (min N len5)) (thL X N (List.replicate M 0) (min N len5))]) := (Hold.nil (Below.refl _ _)).more hb3 (tMem_ok _ _ _ _ _ _) hM3 hf3
  clear hM3 hb3 hf3
  obtain ⟨q0, q1, q2, q3⟩ := HA.out.later HH0.out.below Hs.out
  go_wp2_with fail
  refine (things_any W.heap.size t s 0 0 N M HM.out a5 len5 cap5 tb off X _ hlay HH0.out.size (HX.out.later (below_step' HB.out HH0.out.below HB.out.size) (fun i hi => (HX.out i hi).2.2.1))).mono ?_
  rintro r w4 ⟨p', c', v0', rfl, hM4, hb4, hf4⟩
  have HH1 : Hid (Hold W w4 [tMem W.heap.size p c v0 (thC X N (List.replicate M 0) (min N len5)) (thL X N (List.replicate M 0) (min N len5)), tMem W.heap.size p' c' v0' (thC X N (List.replicate M 0) (min N len5)) (thL X N (List.replicate M 0) (min N len5))]) := Hold.more HH0.out hb4 (tMem_ok _ _ _ _ _ _) hM4 hf4
  clear hM4 hb4 hf4 HH0 q0 q1 q2 q3 HX
  obtain ⟨C0, hC0⟩ : ∃ C0, thC X N (List.replicate M 0) (min N len5) = C0 := ⟨_, rfl⟩
  obtain ⟨L0, hL0⟩ : ∃ L0, thL X N (List.replicate M 0) (min N len5) = L0 := ⟨_, rfl⟩
  have HCL : Hid ((C0.length : Int) = 2 * N + 2 * t) := by show _ = _; rw [← hC0, thC_len, List.length_replicate]; exact HM.out.symm
  have HLL : Hid (L0.length ≤ 100 + 0) := by show _ ≤ _; rw [← hL0, thL_len]; omega
  rw [hC0, hL0] at HH1
  have HC0F := Lib.hid (take_fit (Hold.first HH1.out).fit N)
  clear hC0 hL0
  clear HC0F
  obtain ⟨q0, q1, q2, q3⟩ := HA.out.later HH1.out.below Hs.out
  obtain ⟨ee, hee, hee2⟩ : ∃ e : Int, (if a4 then (1 : Int) else 0) = e ∧ (e = 0 ∨ e = 1) := ⟨_, rfl, by cases a4 <;> simp⟩
  have Hee := Lib.hid hee
  clear hee
  go_wp2_with fail
  refine wp_region_seqS ((fun w' => AtC w' cb t s 0 0)) ((0, true) :: (1, true) :: (2, true) :: (4, true) :: (3, false) :: (5, false) :: (6, true) :: []) (by kernel_rfl) (by kernel_rfl) (by kernel_rfl) (by decide) (fun _ _ _ _ _ h => h) ((HA.out.later (Hold.below (Hold.drew HH1.out)) Hs.out)) ?_
  replace HH1 := Lib.hid (Hold.drew HH1.out)
  clear q0 q1 q2 q3
  repeat (first | (refine seq_take (v := ?_) rfl ?_ ?_ ?_; rotate_left 1; rfl; (focus (intro wS hSw; obtain ⟨k0, k1, k2, k3⟩ := hSw; go_simp; first | done | with_reducible rfl)); (try simp only [Act.put, List.setIfInBounds_toArray, List.set_cons_zero, List.set_cons_succ])) | (refine seq_skip rfl ?_ ?_; rfl; (try simp only [Act.put, List.setIfInBounds_toArray, List.set_cons_zero, List.set_cons_succ])))
  refine seq_run rfl (fun K hK => ?_)
  go_simp
  go_at_call 11
  refine (end_at a4 ee _ Hee.out).mono ?_
  rintro r w5 ⟨rfl, hb5⟩
  (try go_wp2_with fail)
  replace HH1 := Lib.hid (Hold.later HH1.out hb5)
  clear hb5
  refine hK.out _ _ ((HA.out.later (Hold.below HH1.out) Hs.out)) (fun _ => ?_)
  (try simp only [Act.put, List.setIfInBounds_toArray, List.set_cons_zero, List.set_cons_succ])
  clear hK K
  repeat (first | (refine seq_take (v := ?_) rfl ?_ ?_ ?_; rotate_left 1; rfl; (focus (intro wS hSw; obtain ⟨k0, k1, k2, k3⟩ := hSw; go_simp; first | done | with_reducible rfl)); (try simp only [Act.put, List.setIfInBounds_toArray, List.set_cons_zero, List.set_cons_succ])) | (refine seq_skip rfl ?_ ?_; rfl; (try simp only [Act.put, List.setIfInBounds_toArray, List.set_cons_zero, List.set_cons_succ])))
  refine seq_run rfl (fun K hK => ?_)
  go_simp
  go_at_call 10
  refine (genew_any W.heap.size _ N t s 0 0 who ee a3 hlay (Hold.size HH1.out)).mono ?_
  rintro r w6 ⟨b, bs, gs, rfl, hS6, hb6, hbb6⟩
  (try go_wp2_with fail)
  have HH2 : Hid (GS W w6 p c p' c' C0 L0 C0 L0 b (ge0 t s 0 0 who ee a3 N) []) := ⟨v0', GeH.begun2 HH1.out hb6 hS6 hbb6⟩
  clear hS6 hb6 hbb6 HH1
  refine hK.out _ _ ((HA.out.later HH2.out.below Hs.out)) (fun _ => ?_)
  (try simp only [Act.put, List.setIfInBounds_toArray, List.set_cons_zero, List.set_cons_succ])
  clear hK K
  repeat (first | (refine seq_take (v := ?_) rfl ?_ ?_ ?_; rotate_left 1; rfl; (focus (intro wS hSw; obtain ⟨k0, k1, k2, k3⟩ := hSw; go_simp; first | done | with_reducible rfl)); (try simp only [Act.put, List.setIfInBounds_toArray, List.set_cons_zero, List.set_cons_succ])) | (refine seq_skip rfl ?_ ?_; rfl; (try simp only [Act.put, List.setIfInBounds_toArray, List.set_cons_zero, List.set_cons_succ])))
  refine seq_done ?_
  obtain ⟨q0, q1, q2, q3⟩ := HA.out.later HH2.out.below Hs.out
  obtain ⟨hz, hhz⟩ : ∃ hz : Nat, (hz : Int) = 2 * N + who := ⟨(2 * N + who).toNat, by omega⟩
  have Hhz := Lib.hid hhz
  clear hhz
  go_wp2_with fail
  refine (snnew_any W.heap.size _ t s 0 0 who a3 N N hlay rfl HH2.out.size).mono ?_
  rintro r w7 ⟨ba, ga, rfl, hS7, hb7, hba, hga⟩
  have HH3 : Hid (GS W w7 p c p' c' C0 L0 C0 L0 b (ge0 t s 0 0 who ee a3 N) [tSn W.heap.size ba ga (ge0 t s 0 0 who ee a3 N).sn]) := HH2.out.fresh hb7 (tSn_ok _ _ _ _) hS7 (fun q hq => by rcases hq with rfl | rfl; exact hba; exact hga)
  have HK0 : Hid ((ge0 t s 0 0 who ee a3 N).Ok N hz C0) := ge0_ok hlay HCL.out Hhz.out hw0 hw1 hee2
  have HF0 : Hid (GFit W.heap.size (ge0 t s 0 0 who ee a3 N) (pt ba) (.pointer none) [tSn W.heap.size ba ga (ge0 t s 0 0 who ee a3 N).sn]) := ⟨fun _ _ => ⟨rfl, ba, ga, rfl, rfl⟩, fun _ a h => by cases h⟩
  have HSM0 : Hid ((ge0 t s 0 0 who ee a3 N).Same (ge0 t s 0 0 who ee a3 N)) := Ge.Same.refl _
  have HLL0 : Hid (L0.length ≤ 100 + 0 * 200) := HLL.out
  have HPT0 : Hid ((ge0 t s 0 0 who ee a3 N).sn.passes ≤ ((0 : Nat) : Int) ∧ (ge0 t s 0 0 who ee a3 N).tries ≤ ((0 : Nat) : Int)) := ⟨Int.le_refl _, Int.le_refl _⟩
  have HTA0 : Hid ((ge0 t s 0 0 who ee a3 N).ph = 1 → (ge0 t s 0 0 who ee a3 N).ta ≠ none) := fun h => by cases h
  have HVV0 : (0 : Int) = (ge0 t s 0 0 who ee a3 N).val := by unfold Ge.val; exact (if_neg (by show ¬ (0 : Int) = 1; decide)).symm
  have HVV := Lib.hid HVV0
  clear hS7 hb7 hba hga HH2 q0 q1 q2 q3 HVV0 HLL
  go_wp2_with fail
  go_loopw [19, 20, 21, 22, 23, 24] (fun va vb vp vt vv vi wr => ∃ (n : Nat) (C : List Int) (L : List Ev) (k : Ge) (R : List Thing) (A1 A2 : Value), n ≤ 10 * N + 40 ∧ va = A1 ∧ vb = A2 ∧ vi = .int .i64 n ∧ vp = .int .i64 k.ph ∧ vt = .int .i64 k.tries ∧ vv = .int .u64 k.val ∧ Hid (GFit W.heap.size k A1 A2 R) ∧ Hid (GS W wr p c p' c' C L C L b k R) ∧ Hid (k.Ok N hz C) ∧ Hid ((ge0 t s 0 0 who ee a3 N).Same k) ∧ Hid (L.length ≤ 100 + n * 200) ∧ Hid (k.sn.passes ≤ (n : Int) ∧ k.tries ≤ (n : Int)) ∧ Hid (k.ph = 1 → k.ta ≠ none)) (fun _ _ _ _ _ vi _ => 300 - (intOf vi).toNat)
  case atStart => exact ⟨0, C0, L0, _, _, _, _, by omega, rfl, rfl, rfl, rfl, rfl, by rw [← HVV.out], HF0, HH3, HK0, HSM0, HLL0, HPT0, HTA0⟩
  case round =>
    clear HH3 HK0 HF0 HSM0 HLL0 HPT0 HTA0 HVV
    obtain ⟨n, C, L, k, R, va, vb, hn, rfl, rfl, rfl, rfl, rfl, rfl, HF, HH, HK, HSM, HLL, HPT, HTA⟩ := hrel
    obtain ⟨kph, hkph⟩ : ∃ x, k.ph = x := ⟨_, rfl⟩
    obtain ⟨ktr, hktr⟩ : ∃ x, k.tries = x := ⟨_, rfl⟩
    obtain ⟨kv, hkv⟩ : ∃ x, k.val = x := ⟨_, rfl⟩
    rw [hkph, hktr, hkv]
    have HKP := Lib.hid hkph
    have HKT := Lib.hid hktr
    have HKV := Lib.hid hkv
    clear hkph hktr hkv
    obtain ⟨q0, q1, q2, q3⟩ := HA.out.later HH.out.below Hs.out
    go_wp2_with fail
    refine (call_any t s 0 0 N _ hlay).mono ?_
    rintro r w8 ⟨rfl, hb8⟩
    replace HH := Lib.hid (HH.out.later hb8)
    clear hb8 q0 q1 q2 q3
    rcases Nat.lt_or_ge n (10 * N + 40) with hlt | hge
    · have hlt' : (n : Int) < 10 * (N : Int) + 40 := by omega
      have HLn : Hid (L.length ≤ 100 + n * 200 + 0 * 2) := HLL.out
      have HCL0 : Hid ((C.length : Int) = 2 * N + 2 * t) := by have := HK.out.len; show _ = _; rw [HSM.out.t] at this; exact this
      go_wp2_with fail
      go_loopw [79] (fun vi wr => ∃ (q : Nat) (C1 : List Int) (L1 : List Ev), q ≤ len6 ∧ vi = .int .i64 q ∧ Hid (GS W wr p c p' c' C1 L1 C1 L1 b k R) ∧ Hid ((C1.length : Int) = 2 * N + 2 * t) ∧ Hid (L1.length ≤ 100 + n * 200 + q * 2)) (fun vi _ => len6 - (intOf vi).toNat)
      case atStart => exact ⟨0, C, L, by omega, rfl, HH, HCL0, HLn⟩
      case round =>
        clear HH HLn HCL0 HLL
        obtain ⟨q, C1, L1, hq, rfl, HH, HCL, HLq⟩ := hrel
        replace HK : Hid (k.Ok N hz C1) := HK.out.cells (by have h1 := HK.out.len; have h2 := HCL.out; have h3 : k.t = t := HSM.out.t; rw [h3] at h1; omega)
        have HL : Hid (L1.length ≤ 41000) := by have := HLq.out; show _ ≤ _; omega
        clear C L
        obtain ⟨C, rfl⟩ : ∃ x, x = C1 := ⟨_, rfl⟩
        obtain ⟨L, rfl⟩ : ∃ x, x = L1 := ⟨_, rfl⟩
        rcases Nat.lt_or_ge q len6 with hlq | hlq
        · skip
          as_aux_lemma =>
            have hlq' : (q : Int) < (len6 : Int) := by omega
            obtain ⟨rfl, hcap6, htb6, hx0, hx1, hx2, hx3, hx4, hx5, hx6, hx7, hx8, hx9⟩ := (HY.out.later (below_step' HB.out HH.out.below HB.out.size) (fun i hi => (HY.out i hi).2.2.1)) q hlq
            generalize (Y q).1 = ta at hx0
            generalize (Y q).2.1 = ts at hx1
            generalize (Y q).2.2 = x at hx2 hx3 hx4 hx5 hx6 hx7 hx8 hx9
            have HXV : Hid (0 ≤ x.value ∧ x.value ≤ 18446744073709551615) := ⟨hx8, hx9⟩
            clear hx8 hx9
            have hbx := below_new (Below.refl wr.heap.size wr) (.cells #[i64 ta, i64 ts, i64 x.state, i64 x.gen, i64 x.at', i64 x.wide, .bool x.right, u64 x.value] 44)
            have HH0 := Lib.hid (HH.out.more hbx (tObj_ok W.heap.size wr.heap.size [i64 ta, i64 ts, i64 x.state, i64 x.gen, i64 x.at', i64 x.wide, .bool x.right, u64 x.value]) ⟨IsObj.made wr [i64 ta, i64 ts, i64 x.state, i64 x.gen, i64 x.at', i64 x.wide, .bool x.right, u64 x.value] 44, HH.out.size⟩ (fun q hq => by cases hq; exact Nat.le_refl _))
            clear hbx
            by_cases htn : ta = (n : Int)
            · have htn' : (ta == (n : Int)) = true := by simp [htn]
              have HTN := Lib.hid htn
              clear htn
              obtain ⟨u5, hu5, l5, g5⟩ : ∃ u, bits .and .i64 ts 65535 = u ∧ 0 ≤ u ∧ u ≤ 65535 := ⟨_, and_ffff ts, by omega, by omega⟩
              have hNz : ¬ (N : Int) = 0 := by omega
              obtain ⟨j, hj, hjN⟩ : ∃ j : Nat, u5.tmod (N : Int) = (j : Int) ∧ j < N := by
                have h1 := Int.emod_nonneg u5 hNz
                have h2 := Int.emod_lt_of_pos u5 (show (0 : Int) < N by omega)
                rw [Int.tmod_eq_emod_of_nonneg l5]
                exact ⟨(u5 % N).toNat, by omega, by omega⟩
              go_wp2_with fail
              clear HH
              obtain ⟨bx, hbx⟩ : ∃ bx, wr.heap.size = bx := ⟨_, rfl⟩
              rw [hbx] at HH0 ⊢
              have HH : Hid (GS W (wr.alloc (.cells #[i64 ta, i64 ts, i64 x.state, i64 x.gen, i64 x.at', i64 x.wide, .bool x.right, u64 x.value] 44)) p c p' c' C L C L b k (R ++ [tObj W.heap.size bx [i64 ta, i64 ts, i64 x.state, i64 x.gen, i64 x.at', i64 x.wide, .bool x.right, u64 x.value]])) := HH0.out
              clear HH0 hbx
              generalize wr.alloc (.cells #[i64 ta, i64 ts, i64 x.state, i64 x.gen, i64 x.at', i64 x.wide, .bool x.right, u64 x.value] 44) = wa at HH ⊢
              clear hx0 hx1 hx2 hx3 hx4 hx5 hx6 hx7 htn'
              have hone : ∀ wz, GS W wz p c p' c' C L C L b k (R ++ [tObj W.heap.size bx [i64 ta, i64 ts, i64 x.state, i64 x.gen, i64 x.at', i64 x.wide, .bool x.right, u64 x.value]]) → wz.cell? ⟨bx, 1, none⟩ = some (.int .i64 ts) := fun wz hz => by
                have h1 := (hz.at R.length (by rw [List.getElem?_append_right (Nat.le_refl _), Nat.sub_self]; rfl) : (tObj W.heap.size bx _).P wz).1
                exact h1.at' 1 _ rfl
              have HONE := Lib.hid hone
              clear hone
              refine wp_region_seqS ((fun w' => AtC w' cb t s 0 0 ∧ w'.cell? ⟨bx, 1, none⟩ = some (.int .i64 ts))) ((0, true) :: (1, true) :: (2, true) :: (3, true) :: (4, false) :: (5, true) :: (6, true) :: []) (by kernel_rfl) (by kernel_rfl) (by kernel_rfl) (by decide) (fun _ _ _ _ _ h => h) (⟨HA.out.later HH.out.drew.below Hs.out, HONE.out _ HH.out.drew⟩) ?_
              replace HH := Lib.hid HH.out.drew
              repeat (first | (refine seq_take (v := ?_) rfl ?_ ?_ ?_; rotate_left 1; rfl; (focus (intro wS hSw; obtain ⟨⟨k0, k1, k2, k3⟩, kx⟩ := hSw; go_simp; first | done | with_reducible rfl)); (try simp only [Act.put, List.setIfInBounds_toArray, List.set_cons_zero, List.set_cons_succ])) | (refine seq_skip rfl ?_ ?_; rfl; (try simp only [Act.put, List.setIfInBounds_toArray, List.set_cons_zero, List.set_cons_succ])))
              refine seq_run rfl (fun K hK => ?_)
              go_simp
              go_at_call 13
              refine (call_any t s 0 0 N _ hlay).mono ?_
              rintro r wr7 ⟨rfl, hb⟩
              (try go_wp2_with fail)
              replace HH := Lib.hid (HH.out.later hb)
              clear hb
              refine hK.out _ _ (⟨HA.out.later HH.out.below Hs.out, HONE.out _ HH.out⟩) (fun _ => ?_)
              (try simp only [Act.put, List.setIfInBounds_toArray, List.set_cons_zero, List.set_cons_succ])
              clear hK K
              repeat (first | (refine seq_take (v := ?_) rfl ?_ ?_ ?_; rotate_left 1; rfl; (focus (intro wS hSw; obtain ⟨⟨k0, k1, k2, k3⟩, kx⟩ := hSw; go_simp; first | done | with_reducible rfl)); (try simp only [Act.put, List.setIfInBounds_toArray, List.set_cons_zero, List.set_cons_succ])) | (refine seq_skip rfl ?_ ?_; rfl; (try simp only [Act.put, List.setIfInBounds_toArray, List.set_cons_zero, List.set_cons_succ])))
              refine seq_done ?_
              clear hu5 l5 g5 HONE
              go_wp2_with fail
              try rw [hj]
              clear hj
              have hsb := below_new (Below.refl wr7.heap.size wr7) (.cells #[pt p, pt p'] 29)
              have HH2 : Hid (GS W (wr7.alloc (.cells #[pt p, pt p'] 29)) p c p' c' C L C L b k (R ++ bxL W.heap.size bx wr7.heap.size p p' ta ts x)) := by
                have h := HH.out.more hsb (tObj_ok W.heap.size wr7.heap.size [pt p, pt p']) ⟨IsObj.made wr7 [pt p, pt p'] 29, HH.out.size⟩ (fun q hq => by cases hq; exact Nat.le_refl _)
                rw [List.append_assoc] at h
                exact h
              clear hsb HH
              generalize wr7.alloc (.cells #[pt p, pt p'] 29) = wsl at HH2 ⊢
              generalize wr7.heap.size = sb at HH2 ⊢
              go_loopw [97] (fun vi wr => ∃ e : Nat, e ≤ 2 ∧ vi = .int .i64 e ∧ ((e = 0 ∧ Hid (GS W wr p c p' c' C L C L b k (R ++ bxL W.heap.size bx sb p p' ta ts x))) ∨ (e = 1 ∧ Hid (GS W wr p c p' c' ((C.set j x.w).set (N + j) x.value) ((L ++ [(⟨-1, 1, (j : Nat), C.getD j 0, x.w, true⟩ : Ev)]) ++ [(⟨-1, 1, (N + j : Nat), (C.set j x.w).getD (N + j) 0, x.value, true⟩ : Ev)]) C L b k (R ++ bxL W.heap.size bx sb p p' ta ts x))) ∨ (e = 2 ∧ Hid (GS W wr p c p' c' ((C.set j x.w).set (N + j) x.value) ((L ++ [(⟨-1, 1, (j : Nat), C.getD j 0, x.w, true⟩ : Ev)]) ++ [(⟨-1, 1, (N + j : Nat), (C.set j x.w).getD (N + j) 0, x.value, true⟩ : Ev)]) ((C.set j x.w).set (N + j) x.value) ((L ++ [(⟨-1, 1, (j : Nat), C.getD j 0, x.w, true⟩ : Ev)]) ++ [(⟨-1, 1, (N + j : Nat), (C.set j x.w).getD (N + j) 0, x.value, true⟩ : Ev)]) b k (R ++ bxL W.heap.size bx sb p p' ta ts x))))) (fun vi _ => 2 - (intOf vi).toNat)
              case atStart => exact ⟨0, by omega, rfl, .inl ⟨rfl, HH2⟩⟩
              case round =>
                clear HH2
                obtain ⟨e, he, rfl, hrel⟩ := hrel
                rcases hrel with ⟨rfl, HH⟩ | ⟨rfl, HH⟩ | ⟨rfl, HH⟩
                · obtain ⟨hct, hsb0, hsb1⟩ := HH.out.box (HA.out.later HH.out.below Hs.out)
                  clear hct
                  rw [show ((0 : Nat) : Int) = 0 from rfl]
                  go_wp2_with fail
                  refine wp_region_seqS ((fun w' => AtCTh cb bx 2 t s 0 0 x w')) ((0, true) :: (1, true) :: (2, true) :: (4, true) :: (5, true) :: (3, false) :: (6, false) :: (7, false) :: (8, false) :: []) (by kernel_rfl) (by kernel_rfl) (by kernel_rfl) (by decide) (fun _ _ _ _ _ h => h) ((HH.out.drew.box (HA.out.later HH.out.drew.below Hs.out)).1) ?_
                  replace HH := Lib.hid HH.out.drew
                  clear hsb0 hsb1
                  repeat (first | (refine seq_take (v := ?_) rfl ?_ ?_ ?_; rotate_left 1; rfl; (focus (intro wS hSw; obtain ⟨⟨k0, k1, k2, k3⟩, g0, g1, g2, g3, g4, g5⟩ := hSw; go_simp; first | done | with_reducible rfl)); (try simp only [Act.put, List.setIfInBounds_toArray, List.set_cons_zero, List.set_cons_succ])) | (refine seq_skip rfl ?_ ?_; rfl; (try simp only [Act.put, List.setIfInBounds_toArray, List.set_cons_zero, List.set_cons_succ])))
                  refine seq_run rfl (fun K hK => ?_)
                  go_simp
                  go_at_call 15
                  refine (gword_at t s 0 0 j j _ rfl).mono ?_
                  rintro r wr7 ⟨rfl, hb⟩
                  (try go_wp2_with fail)
                  replace HH := Lib.hid (HH.out.later hb)
                  clear hb
                  refine hK.out _ _ ((HH.out.box (HA.out.later HH.out.below Hs.out)).1) (fun _ => ?_)
                  (try simp only [Act.put, List.setIfInBounds_toArray, List.set_cons_zero, List.set_cons_succ])
                  clear hK K
                  repeat (first | (refine seq_take (v := ?_) rfl ?_ ?_ ?_; rotate_left 1; rfl; (focus (intro wS hSw; obtain ⟨⟨k0, k1, k2, k3⟩, g0, g1, g2, g3, g4, g5⟩ := hSw; go_simp; first | done | with_reducible rfl)); (try simp only [Act.put, List.setIfInBounds_toArray, List.set_cons_zero, List.set_cons_succ])) | (refine seq_skip rfl ?_ ?_; rfl; (try simp only [Act.put, List.setIfInBounds_toArray, List.set_cons_zero, List.set_cons_succ])))
                  refine seq_run rfl (fun K hK => ?_)
                  go_simp
                  go_at_call 16
                  refine (thing_any x _).mono ?_
                  rintro r wr7 ⟨rfl, hb⟩
                  (try go_wp2_with fail)
                  replace HH := Lib.hid (HH.out.later hb)
                  clear hb
                  refine hK.out _ _ ((HH.out.box (HA.out.later HH.out.below Hs.out)).1) (fun _ => ?_)
                  (try simp only [Act.put, List.setIfInBounds_toArray, List.set_cons_zero, List.set_cons_succ])
                  clear hK K
                  obtain ⟨f0, f1, f2, f3, f4, f5, f6, f7, f8, f9⟩ := x.fits
                  repeat (first | (refine seq_take (v := ?_) rfl ?_ ?_ ?_; rotate_left 1; rfl; (focus (intro wS hSw; obtain ⟨⟨k0, k1, k2, k3⟩, g0, g1, g2, g3, g4, g5⟩ := hSw; go_simp; first | done | with_reducible rfl)); (try simp only [Act.put, List.setIfInBounds_toArray, List.set_cons_zero, List.set_cons_succ])) | (refine seq_skip rfl ?_ ?_; rfl; (try simp only [Act.put, List.setIfInBounds_toArray, List.set_cons_zero, List.set_cons_succ])))
                  refine seq_run rfl (fun K hK => ?_)
                  go_simp
                  go_at_call 17
                  refine (gpack_at x.s x.e x.g x.lo x.hi x.w _ (by omega) rfl).mono ?_
                  rintro r wr7 ⟨rfl, hb⟩
                  (try go_wp2_with fail)
                  replace HH := Lib.hid (HH.out.later hb)
                  clear hb
                  refine hK.out _ _ ((HH.out.box (HA.out.later HH.out.below Hs.out)).1) (fun _ => ?_)
                  (try simp only [Act.put, List.setIfInBounds_toArray, List.set_cons_zero, List.set_cons_succ])
                  clear hK K
                  clear f0 f1 f2 f3 f4 f5 f6 f7 f8 f9
                  repeat (first | (refine seq_take (v := ?_) rfl ?_ ?_ ?_; rotate_left 1; rfl; (focus (intro wS hSw; obtain ⟨⟨k0, k1, k2, k3⟩, g0, g1, g2, g3, g4, g5⟩ := hSw; go_simp; first | done | with_reducible rfl)); (try simp only [Act.put, List.setIfInBounds_toArray, List.set_cons_zero, List.set_cons_succ])) | (refine seq_skip rfl ?_ ?_; rfl; (try simp only [Act.put, List.setIfInBounds_toArray, List.set_cons_zero, List.set_cons_succ])))
                  refine seq_run rfl (fun K hK => ?_)
                  go_simp
                  go_at_call 14
                  refine (HH.out.store1 (-1) j (C.getD j 0) x.w (getD_at (by have := HCL.out; omega)) (by have := HL.out; omega) x.w_fit.1 x.w_fit.2).mono ?_
                  rintro r wr8 ⟨rfl, hH, _⟩
                  (try go_wp2_with fail)
                  replace HH := Lib.hid hH
                  clear hH
                  refine hK.out _ _ ((HH.out.box (HA.out.later HH.out.below Hs.out)).1) (fun _ => ?_)
                  (try simp only [Act.put, List.setIfInBounds_toArray, List.set_cons_zero, List.set_cons_succ])
                  clear hK K
                  repeat (first | (refine seq_take (v := ?_) rfl ?_ ?_ ?_; rotate_left 1; rfl; (focus (intro wS hSw; obtain ⟨⟨k0, k1, k2, k3⟩, g0, g1, g2, g3, g4, g5⟩ := hSw; go_simp; first | done | with_reducible rfl)); (try simp only [Act.put, List.setIfInBounds_toArray, List.set_cons_zero, List.set_cons_succ])) | (refine seq_skip rfl ?_ ?_; rfl; (try simp only [Act.put, List.setIfInBounds_toArray, List.set_cons_zero, List.set_cons_succ])))
                  refine seq_done ?_
                  go_wp2_with fail
                  refine wp_region_seqS ((fun w' => AtCTh cb bx 2 t s 0 0 x w')) ((0, true) :: (1, true) :: (2, true) :: (4, true) :: (5, true) :: (6, true) :: (3, false) :: (7, false) :: []) (by kernel_rfl) (by kernel_rfl) (by kernel_rfl) (by decide) (fun _ _ _ _ _ h => h) ((HH.out.drew.box (HA.out.later HH.out.drew.below Hs.out)).1) ?_
                  replace HH := Lib.hid HH.out.drew
                  repeat (first | (refine seq_take (v := ?_) rfl ?_ ?_ ?_; rotate_left 1; rfl; (focus (intro wS hSw; obtain ⟨⟨k0, k1, k2, k3⟩, g0, g1, g2, g3, g4, g5⟩ := hSw; go_simp; first | done | with_reducible rfl)); (try simp only [Act.put, List.setIfInBounds_toArray, List.set_cons_zero, List.set_cons_succ])) | (refine seq_skip rfl ?_ ?_; rfl; (try simp only [Act.put, List.setIfInBounds_toArray, List.set_cons_zero, List.set_cons_succ])))
                  refine seq_run rfl (fun K hK => ?_)
                  go_simp
                  go_at_call 18
                  refine (gvalue_at t s 0 0 N j (N + j) _ hlay (by omega) (by omega) (by omega)).mono ?_
                  rintro r wr7 ⟨rfl, hb⟩
                  (try go_wp2_with fail)
                  replace HH := Lib.hid (HH.out.later hb)
                  clear hb
                  refine hK.out _ _ ((HH.out.box (HA.out.later HH.out.below Hs.out)).1) (fun _ => ?_)
                  (try simp only [Act.put, List.setIfInBounds_toArray, List.set_cons_zero, List.set_cons_succ])
                  clear hK K
                  repeat (first | (refine seq_take (v := ?_) rfl ?_ ?_ ?_; rotate_left 1; rfl; (focus (intro wS hSw; obtain ⟨⟨k0, k1, k2, k3⟩, g0, g1, g2, g3, g4, g5⟩ := hSw; go_simp; first | done | with_reducible rfl)); (try simp only [Act.put, List.setIfInBounds_toArray, List.set_cons_zero, List.set_cons_succ])) | (refine seq_skip rfl ?_ ?_; rfl; (try simp only [Act.put, List.setIfInBounds_toArray, List.set_cons_zero, List.set_cons_succ])))
                  refine seq_run rfl (fun K hK => ?_)
                  go_simp
                  go_at_call 14
                  refine (HH.out.store1 (-1) (N + j) ((C.set j x.w).getD (N + j) 0) x.value (getD_at (by rw [List.length_set]; have := HCL.out; omega)) (by rw [List.length_append]; have := HL.out; simp only [List.length_cons, List.length_nil]; omega) HXV.out.1 HXV.out.2).mono ?_
                  rintro r wr8 ⟨rfl, hH, _⟩
                  (try go_wp2_with fail)
                  replace HH := Lib.hid hH
                  clear hH
                  refine hK.out _ _ ((HH.out.box (HA.out.later HH.out.below Hs.out)).1) (fun _ => ?_)
                  (try simp only [Act.put, List.setIfInBounds_toArray, List.set_cons_zero, List.set_cons_succ])
                  clear hK K
                  repeat (first | (refine seq_take (v := ?_) rfl ?_ ?_ ?_; rotate_left 1; rfl; (focus (intro wS hSw; obtain ⟨⟨k0, k1, k2, k3⟩, g0, g1, g2, g3, g4, g5⟩ := hSw; go_simp; first | done | with_reducible rfl)); (try simp only [Act.put, List.setIfInBounds_toArray, List.set_cons_zero, List.set_cons_succ])) | (refine seq_skip rfl ?_ ?_; rfl; (try simp only [Act.put, List.setIfInBounds_toArray, List.set_cons_zero, List.set_cons_succ])))
                  refine seq_done ?_
                  go_wp2_with fail
                  go_roundw
                  case rel => exact ⟨1, by omega, by first | rfl | go_num, .inr (.inl ⟨rfl, HH⟩)⟩
                  case measure => first | omega | (simp [intOf]; done) | (simp [intOf]; omega)
                · obtain ⟨hct, hsb0, hsb1⟩ := HH.out.box (HA.out.later HH.out.below Hs.out)
                  clear hct
                  rw [show ((1 : Nat) : Int) = 1 from rfl]
                  go_wp2_with fail
                  refine wp_region_seqS ((fun w' => AtCTh cb bx 2 t s 0 0 x w')) ((0, true) :: (1, true) :: (2, true) :: (4, true) :: (5, true) :: (3, false) :: (6, false) :: (7, false) :: (8, false) :: []) (by kernel_rfl) (by kernel_rfl) (by kernel_rfl) (by decide) (fun _ _ _ _ _ h => h) ((HH.out.drew.box (HA.out.later HH.out.drew.below Hs.out)).1) ?_
                  replace HH := Lib.hid HH.out.drew
                  clear hsb0 hsb1
                  repeat (first | (refine seq_take (v := ?_) rfl ?_ ?_ ?_; rotate_left 1; rfl; (focus (intro wS hSw; obtain ⟨⟨k0, k1, k2, k3⟩, g0, g1, g2, g3, g4, g5⟩ := hSw; go_simp; first | done | with_reducible rfl)); (try simp only [Act.put, List.setIfInBounds_toArray, List.set_cons_zero, List.set_cons_succ])) | (refine seq_skip rfl ?_ ?_; rfl; (try simp only [Act.put, List.setIfInBounds_toArray, List.set_cons_zero, List.set_cons_succ])))
                  refine seq_run rfl (fun K hK => ?_)
                  go_simp
                  go_at_call 15
                  refine (gword_at t s 0 0 j j _ rfl).mono ?_
                  rintro r wr7 ⟨rfl, hb⟩
                  (try go_wp2_with fail)
                  replace HH := Lib.hid (HH.out.later hb)
                  clear hb
                  refine hK.out _ _ ((HH.out.box (HA.out.later HH.out.below Hs.out)).1) (fun _ => ?_)
                  (try simp only [Act.put, List.setIfInBounds_toArray, List.set_cons_zero, List.set_cons_succ])
                  clear hK K
                  repeat (first | (refine seq_take (v := ?_) rfl ?_ ?_ ?_; rotate_left 1; rfl; (focus (intro wS hSw; obtain ⟨⟨k0, k1, k2, k3⟩, g0, g1, g2, g3, g4, g5⟩ := hSw; go_simp; first | done | with_reducible rfl)); (try simp only [Act.put, List.setIfInBounds_toArray, List.set_cons_zero, List.set_cons_succ])) | (refine seq_skip rfl ?_ ?_; rfl; (try simp only [Act.put, List.setIfInBounds_toArray, List.set_cons_zero, List.set_cons_succ])))
                  refine seq_run rfl (fun K hK => ?_)
                  go_simp
                  go_at_call 16
                  refine (thing_any x _).mono ?_
                  rintro r wr7 ⟨rfl, hb⟩
                  (try go_wp2_with fail)
                  replace HH := Lib.hid (HH.out.later hb)
                  clear hb
                  refine hK.out _ _ ((HH.out.box (HA.out.later HH.out.below Hs.out)).1) (fun _ => ?_)
                  (try simp only [Act.put, List.setIfInBounds_toArray, List.set_cons_zero, List.set_cons_succ])
                  clear hK K
                  obtain ⟨f0, f1, f2, f3, f4, f5, f6, f7, f8, f9⟩ := x.fits
                  repeat (first | (refine seq_take (v := ?_) rfl ?_ ?_ ?_; rotate_left 1; rfl; (focus (intro wS hSw; obtain ⟨⟨k0, k1, k2, k3⟩, g0, g1, g2, g3, g4, g5⟩ := hSw; go_simp; first | done | with_reducible rfl)); (try simp only [Act.put, List.setIfInBounds_toArray, List.set_cons_zero, List.set_cons_succ])) | (refine seq_skip rfl ?_ ?_; rfl; (try simp only [Act.put, List.setIfInBounds_toArray, List.set_cons_zero, List.set_cons_succ])))
                  refine seq_run rfl (fun K hK => ?_)
                  go_simp
                  go_at_call 17
                  refine (gpack_at x.s x.e x.g x.lo x.hi x.w _ (by omega) rfl).mono ?_
                  rintro r wr7 ⟨rfl, hb⟩
                  (try go_wp2_with fail)
                  replace HH := Lib.hid (HH.out.later hb)
                  clear hb
                  refine hK.out _ _ ((HH.out.box (HA.out.later HH.out.below Hs.out)).1) (fun _ => ?_)
                  (try simp only [Act.put, List.setIfInBounds_toArray, List.set_cons_zero, List.set_cons_succ])
                  clear hK K
                  clear f0 f1 f2 f3 f4 f5 f6 f7 f8 f9
                  repeat (first | (refine seq_take (v := ?_) rfl ?_ ?_ ?_; rotate_left 1; rfl; (focus (intro wS hSw; obtain ⟨⟨k0, k1, k2, k3⟩, g0, g1, g2, g3, g4, g5⟩ := hSw; go_simp; first | done | with_reducible rfl)); (try simp only [Act.put, List.setIfInBounds_toArray, List.set_cons_zero, List.set_cons_succ])) | (refine seq_skip rfl ?_ ?_; rfl; (try simp only [Act.put, List.setIfInBounds_toArray, List.set_cons_zero, List.set_cons_succ])))
                  refine seq_run rfl (fun K hK => ?_)
                  go_simp
                  go_at_call 14
                  refine (HH.out.store2 (-1) j (C.getD j 0) x.w (getD_at (by have := HCL.out; omega)) (by have := HL.out; omega) x.w_fit.1 x.w_fit.2).mono ?_
                  rintro r wr8 ⟨rfl, hH, _⟩
                  (try go_wp2_with fail)
                  replace HH := Lib.hid hH
                  clear hH
                  refine hK.out _ _ ((HH.out.box (HA.out.later HH.out.below Hs.out)).1) (fun _ => ?_)
                  (try simp only [Act.put, List.setIfInBounds_toArray, List.set_cons_zero, List.set_cons_succ])
                  clear hK K
                  repeat (first | (refine seq_take (v := ?_) rfl ?_ ?_ ?_; rotate_left 1; rfl; (focus (intro wS hSw; obtain ⟨⟨k0, k1, k2, k3⟩, g0, g1, g2, g3, g4, g5⟩ := hSw; go_simp; first | done | with_reducible rfl)); (try simp only [Act.put, List.setIfInBounds_toArray, List.set_cons_zero, List.set_cons_succ])) | (refine seq_skip rfl ?_ ?_; rfl; (try simp only [Act.put, List.setIfInBounds_toArray, List.set_cons_zero, List.set_cons_succ])))
                  refine seq_done ?_
                  go_wp2_with fail
                  refine wp_region_seqS ((fun w' => AtCTh cb bx 2 t s 0 0 x w')) ((0, true) :: (1, true) :: (2, true) :: (4, true) :: (5, true) :: (6, true) :: (3, false) :: (7, false) :: []) (by kernel_rfl) (by kernel_rfl) (by kernel_rfl) (by decide) (fun _ _ _ _ _ h => h) ((HH.out.drew.box (HA.out.later HH.out.drew.below Hs.out)).1) ?_
                  replace HH := Lib.hid HH.out.drew
                  repeat (first | (refine seq_take (v := ?_) rfl ?_ ?_ ?_; rotate_left 1; rfl; (focus (intro wS hSw; obtain ⟨⟨k0, k1, k2, k3⟩, g0, g1, g2, g3, g4, g5⟩ := hSw; go_simp; first | done | with_reducible rfl)); (try simp only [Act.put, List.setIfInBounds_toArray, List.set_cons_zero, List.set_cons_succ])) | (refine seq_skip rfl ?_ ?_; rfl; (try simp only [Act.put, List.setIfInBounds_toArray, List.set_cons_zero, List.set_cons_succ])))
                  refine seq_run rfl (fun K hK => ?_)
                  go_simp
                  go_at_call 18
                  refine (gvalue_at t s 0 0 N j (N + j) _ hlay (by omega) (by omega) (by omega)).mono ?_
                  rintro r wr7 ⟨rfl, hb⟩
                  (try go_wp2_with fail)
                  replace HH := Lib.hid (HH.out.later hb)
                  clear hb
                  refine hK.out _ _ ((HH.out.box (HA.out.later HH.out.below Hs.out)).1) (fun _ => ?_)
                  (try simp only [Act.put, List.setIfInBounds_toArray, List.set_cons_zero, List.set_cons_succ])
                  clear hK K
                  repeat (first | (refine seq_take (v := ?_) rfl ?_ ?_ ?_; rotate_left 1; rfl; (focus (intro wS hSw; obtain ⟨⟨k0, k1, k2, k3⟩, g0, g1, g2, g3, g4, g5⟩ := hSw; go_simp; first | done | with_reducible rfl)); (try simp only [Act.put, List.setIfInBounds_toArray, List.set_cons_zero, List.set_cons_succ])) | (refine seq_skip rfl ?_ ?_; rfl; (try simp only [Act.put, List.setIfInBounds_toArray, List.set_cons_zero, List.set_cons_succ])))
                  refine seq_run rfl (fun K hK => ?_)
                  go_simp
                  go_at_call 14
                  refine (HH.out.store2 (-1) (N + j) ((C.set j x.w).getD (N + j) 0) x.value (getD_at (by rw [List.length_set]; have := HCL.out; omega)) (by rw [List.length_append]; have := HL.out; simp only [List.length_cons, List.length_nil]; omega) HXV.out.1 HXV.out.2).mono ?_
                  rintro r wr8 ⟨rfl, hH, _⟩
                  (try go_wp2_with fail)
                  replace HH := Lib.hid hH
                  clear hH
                  refine hK.out _ _ ((HH.out.box (HA.out.later HH.out.below Hs.out)).1) (fun _ => ?_)
                  (try simp only [Act.put, List.setIfInBounds_toArray, List.set_cons_zero, List.set_cons_succ])
                  clear hK K
                  repeat (first | (refine seq_take (v := ?_) rfl ?_ ?_ ?_; rotate_left 1; rfl; (focus (intro wS hSw; obtain ⟨⟨k0, k1, k2, k3⟩, g0, g1, g2, g3, g4, g5⟩ := hSw; go_simp; first | done | with_reducible rfl)); (try simp only [Act.put, List.setIfInBounds_toArray, List.set_cons_zero, List.set_cons_succ])) | (refine seq_skip rfl ?_ ?_; rfl; (try simp only [Act.put, List.setIfInBounds_toArray, List.set_cons_zero, List.set_cons_succ])))
                  refine seq_done ?_
                  go_wp2_with fail
                  go_roundw
                  case rel => exact ⟨2, by omega, by first | rfl | go_num, .inr (.inr ⟨rfl, HH⟩)⟩
                  case measure => first | omega | (simp [intOf]; done) | (simp [intOf]; omega)
                · rw [show ((2 : Nat) : Int) = 2 from rfl]
                  have HCL2 : Hid ((((C.set j x.w).set (N + j) x.value).length : Int) = 2 * N + 2 * t) := by show _ = _; rw [List.length_set, List.length_set]; exact HCL.out
                  have HLq2 : Hid (((L ++ [(⟨-1, 1, (j : Nat), C.getD j 0, x.w, true⟩ : Ev)]) ++ [(⟨-1, 1, (N + j : Nat), (C.set j x.w).getD (N + j) 0, x.value, true⟩ : Ev)]).length ≤ 100 + n * 200 + (q + 1) * 2) := by have := HLq.out; show _ ≤ _; rw [List.length_append, List.length_append]; simp only [List.length_cons, List.length_nil]; omega
                  have HHL := Lib.hid HH.out.less
                  clear HH
                  go_wp2_with fail
                  go_roundw
                  case rel => exact ⟨q + 1, _, _, by omega, by go_num, HHL, HCL2, HLq2⟩
                  case measure => first | omega | (simp [intOf]; done) | (simp [intOf]; omega)
            · have htn' : (ta == (n : Int)) = false := by simp [htn]
              clear htn
              go_wp2_with fail
              go_roundw
              case rel => exact ⟨q + 1, C, L, by omega, by go_num, Lib.hid HH0.out.less, HCL, by have := HLq.out; show _ ≤ _; omega⟩
              case measure => first | omega | (simp [intOf]; done) | (simp [intOf]; omega)
        · have hlq' : ¬ (q : Int) < (len6 : Int) := by omega
          have HLz : Hid (L.length ≤ 100 + n * 200 + 80) := by have := HLq.out; show _ ≤ _; omega
          clear HLq
          obtain rfl := HKP.out
          obtain rfl := HKT.out
          obtain rfl := HKV.out
          go_upto_block 6 with fail
          go_cut [19, 20, 21, 22, 23] (fun va' vb' vp vt vv wx => ∃ (k' : Ge) (R' : List Thing), vp = .int .i64 k'.ph ∧ vt = .int .i64 k'.tries ∧ vv = .int .u64 k'.val ∧ Hid (∃ z, k.ask C z ∧ k' = k.step N hz C z) ∧ Hid (GFit W.heap.size k' va' vb' R') ∧ Hid (GS W wx p c p' c' C L (k.cells N hz C) (L ++ k.ev N hz C) b k R'))
          case first =>
            by_cases hp : k.ph = 0
            · cases hta : k.ta with
              | none =>
                obtain ⟨rfl, ba, ga, rfl, rfl⟩ := HF.out.s hp hta
                obtain ⟨s1, s2⟩ := HK.out.sn hp hta
                have HSN := Lib.hid (HH.out.snap s1 (by have := HL.out; omega))
                have HP0 := Lib.hid hp
                have HTN := Lib.hid hta
                rw [hp, Ge.val0 hp]
                clear s1 s2 hp HF
                by_cases hd : (k.sn.step C).ph = 1
                · have q1 : ((k.sn.step C).ph == 1) = true := by simp [hd]
                  have HD := Lib.hid hd
                  have HSX := Lib.hid (st_sn HK.out HH.out.fit HP0.out hta)
                  clear hd hta
                  go_wp2_with fail
                  refine HSN.out.mono ?_
                  rintro r wm ⟨rfl, hH⟩
                  have HH2 := Lib.hid hH
                  clear hH HSN HH
                  go_wp2_with fail
                  refine (HH2.out.words HD.out (by rw [HSX.out.1]; omega)).mono ?_
                  rintro r wn ⟨hw, rfl, hrow, hb⟩
                  rw [HSX.out.1] at hrow ⊢
                  have hws := ws_of_row hrow HSX.out.2.2
                  have HWS := Lib.hid hws
                  have HH3 := Lib.hid (HH2.out.later hb)
                  clear hb hrow hws HH2 q1
                  obtain ⟨X1, hX1⟩ : ∃ X1, (k.sn.step C).X = X1 := ⟨_, rfl⟩
                  have HX1 := Lib.hid hX1
                  have HXF := Lib.hid HSX.out.2.2
                  have HXL := Lib.hid HSX.out.2.1
                  rw [hX1] at HWS HXF HXL
                  clear hX1
                  go_wp2_with fail
                  refine (row_at0 _ _ N N X1 HXL.out HWS.out (by omega)).mono ?_
                  rintro r wo ⟨rb, rc, S1, rfl, hord, hown, hb⟩
                  have HORD := Lib.hid hord
                  have HOWN := Lib.hid hown
                  have HH4 := Lib.hid (HH3.out.later hb)
                  replace HWS := Lib.hid (HWS.out.later hb)
                  clear hb hord hown HH3
                  have hls1 : S1.length ≤ 16 := by have := HORD.out.len; have := HXL.out; omega
                  obtain ⟨ls, hls⟩ : ∃ ls, S1.length = ls := ⟨_, rfl⟩
                  have HLS := Lib.hid hls
                  rw [hls] at hls1 ⊢
                  clear hls
                  rcases Nat.eq_zero_or_pos ls with rfl | hlp
                  · skip
                    as_aux_lemma =>
                      go_wp2_with fail
                      go_meet
                      have hS : S1 = [] := List.eq_nil_of_length_eq_zero HLS.out
                      have hE : IsEnd (k.sn.step C).X k.e (-1) := by
                        rw [HX1.out]
                        have := HORD.out
                        rw [hS] at this
                        exact end_none this
                      obtain ⟨e1, e2, e3, e4⟩ := st_done (N := N) (hz := hz) (C := C) HP0.out HTN.out HD.out hE
                      rw [if_pos (by decide)] at e2
                      exact ⟨{ k with sn := k.sn.step C, ph := 2 }, _, rfl, rfl, (by show _ = Value.int .u64 (Ge.val _); unfold Ge.val; rw [if_neg (by show ¬ (2 : Int) = 1; decide)]), ⟨-1, e1, e2.symm⟩, ⟨(fun h => by have h9 : (2 : Int) = 0 := h; omega), (fun h => by have h9 : (2 : Int) = 0 := h; omega)⟩, by rw [e3, e4]; exact HH4⟩
                  · have hlz : ((ls : Int) == 0) = false := by simp; omega
                    have hlz' : ¬ (ls : Int) = 0 := by omega
                    have hlz2 : (0 : Int) < (ls : Int) := by omega
                    obtain ⟨g, hrg, hci⟩ := ints_at HOWN.out (by have := HLS.out; omega)
                    cases hrg
                    cases a4
                    · have he0 : ee = 0 := Hee.out.symm
                      have HE0 := Lib.hid he0
                      have hc0 := hci 0 (by have := HLS.out; omega)
                      clear hci he0
                      as_aux_lemma =>
                        obtain ⟨j, hj⟩ : ∃ j, S1.getD 0 0 = j := ⟨_, rfl⟩
                        rw [hj] at hc0
                        have hE : IsEnd X1 0 (j : Int) := end_left HORD.out (by have := HLS.out; omega) hj
                        have hjN : j < N := by
                          rcases id hE with ⟨h, _⟩ | ⟨i, h1, h2, _⟩
                          · omega
                          · have := HXL.out; omega
                        have hjN' : (j : Int) < (N : Int) := by omega
                        have hj0 : (0 : Int) ≤ (j : Int) := by omega
                        have HEE := Lib.hid hE
                        obtain ⟨b5, o5, hb5, hcw⟩ := HWS.out.has (by have := HXL.out; omega)
                        cases hb5
                        have hxw := hcw j (by have := HXL.out; omega)
                        rw [Nat.zero_add] at hxw
                        obtain ⟨x, hx⟩ : ∃ x, X1.getD j 0 = x := ⟨_, rfl⟩
                        rw [hx] at hxw
                        have HXJ := Lib.hid hx
                        clear hj hE hcw hx
                        go_wp2_with fail
                        refine wp_region_seqS ((fun w' => AtC w' cb t s 0 0 ∧ w'.cell? ⟨g, 0, none⟩ = some (i64 j) ∧ w'.cell? ⟨hw, j, none⟩ = some (u64 x))) ((0, true) :: (1, true) :: (2, true) :: (3, true) :: (4, true) :: (5, true) :: (6, true) :: (7, true) :: (8, true) :: (9, true) :: (10, true) :: (11, false) :: (12, true) :: []) (by kernel_rfl) (by kernel_rfl) (by kernel_rfl) (by decide) (fun _ _ _ _ _ h => h) (⟨HA.out.later HH4.out.drew.below Hs.out, hc0, hxw⟩) ?_
                        replace HH4 := Lib.hid HH4.out.drew
                        have HC0 : Hid (wo.drew.cell? ⟨g, 0, none⟩ = some (i64 (j : Nat))) := hc0
                        have HXW : Hid (wo.drew.cell? ⟨hw, j, none⟩ = some (u64 x)) := hxw
                        clear hc0 hxw
                        repeat (first | (refine seq_take (v := ?_) rfl ?_ ?_ ?_; rotate_left 1; rfl; (focus (intro wS hSw; obtain ⟨⟨k0, k1, k2, k3⟩, d0, d1⟩ := hSw; go_simp; first | done | with_reducible rfl)); (try simp only [Act.put, List.setIfInBounds_toArray, List.set_cons_zero, List.set_cons_succ])) | (refine seq_skip rfl ?_ ?_; rfl; (try simp only [Act.put, List.setIfInBounds_toArray, List.set_cons_zero, List.set_cons_succ])))
                        refine seq_run rfl (fun K hK => ?_)
                        go_simp
                        go_at_call 22
                        refine (tanew_any _ t s 0 0 who j x).mono ?_
                        rintro r wq ⟨xb, rfl, hO, hb, hxb⟩
                        (try go_wp2_with fail)
                        have hd0 := (hb.cell (p := ⟨g, 0, none⟩) (World.block_lt_of_cell? _ _ HC0.out)).trans HC0.out
                        have hd1 := (hb.cell (p := ⟨hw, j, none⟩) (World.block_lt_of_cell? _ _ HXW.out)).trans HXW.out
                        have HH5 : Hid (GS W wq p c p' c' C L C (L ++ k.sn.ev C) b k [tObj W.heap.size xb (ta0 t s 0 0 who j x).list]) := HH4.out.fresh hb (tObj_ok _ _ _) ⟨hO, Nat.le_trans HH4.out.size hxb⟩ (fun q hq => by cases hq; exact hxb)
                        clear hO hb hxb HH4
                        refine hK.out _ _ (⟨HA.out.later HH5.out.below Hs.out, hd0, hd1⟩) (fun _ => ?_)
                        (try simp only [Act.put, List.setIfInBounds_toArray, List.set_cons_zero, List.set_cons_succ])
                        clear hK K
                        repeat (first | (refine seq_take (v := ?_) rfl ?_ ?_ ?_; rotate_left 1; rfl; (focus (intro wS hSw; obtain ⟨⟨k0, k1, k2, k3⟩, d0, d1⟩ := hSw; go_simp; first | done | with_reducible rfl)); (try simp only [Act.put, List.setIfInBounds_toArray, List.set_cons_zero, List.set_cons_succ])) | (refine seq_skip rfl ?_ ?_; rfl; (try simp only [Act.put, List.setIfInBounds_toArray, List.set_cons_zero, List.set_cons_succ])))
                        refine seq_done ?_
                        clear hd0 hd1
                        go_wp2_with fail
                        go_meet
                        obtain ⟨e1, e2, e3, e4⟩ := st_done (N := N) (hz := hz) (C := C) (z := (j : Int)) HP0.out HTN.out HD.out (by rw [HX1.out, show k.e = ee from HSM.out.e, HE0.out]; exact HEE.out)
                        have hta0 : ta0 k.t k.s k.so k.d k.who (j : Int) x = ta0 t s 0 0 who j x := by rw [show k.t = t from HSM.out.t, show k.s = s from HSM.out.s, show k.so = 0 from HSM.out.so, show k.d = 0 from HSM.out.d, show k.who = who from HSM.out.who]
                        rw [if_neg (by omega), HX1.out, Int.toNat_natCast, HXJ.out, hta0] at e2
                        exact ⟨{ k with sn := k.sn.step C, ta := some (ta0 t s 0 0 who j x) }, _, by rw [show ({ k with sn := k.sn.step C, ta := some (ta0 t s 0 0 who j x) } : Ge).ph = 0 from HP0.out], rfl, by rw [Ge.val0 (k := { k with sn := k.sn.step C, ta := some (ta0 t s 0 0 who j x) }) HP0.out], ⟨(j : Int), e1, e2.symm⟩, ⟨(fun _ h => by cases h), fun _ y h => by cases h; exact ⟨xb, rfl, rfl⟩⟩, by rw [e3, e4]; exact HH5⟩
                    · have he1 : ee = 1 := Hee.out.symm
                      have HE1 := Lib.hid he1
                      have hc0 := hci (ls - 1) (by have := HLS.out; omega)
                      clear hci he1
                      as_aux_lemma =>
                        obtain ⟨j, hj⟩ : ∃ j, S1.getD (ls - 1) 0 = j := ⟨_, rfl⟩
                        rw [hj] at hc0
                        have hE : IsEnd X1 1 (j : Int) := end_right HORD.out (by have := HLS.out; omega) (by rw [HLS.out]; exact hj)
                        have hjN : j < N := by
                          rcases id hE with ⟨h, _⟩ | ⟨i, h1, h2, _⟩
                          · omega
                          · have := HXL.out; omega
                        have hjN' : (j : Int) < (N : Int) := by omega
                        have hj0 : (0 : Int) ≤ (j : Int) := by omega
                        have HEE := Lib.hid hE
                        obtain ⟨b5, o5, hb5, hcw⟩ := HWS.out.has (by have := HXL.out; omega)
                        cases hb5
                        have hxw := hcw j (by have := HXL.out; omega)
                        rw [Nat.zero_add] at hxw
                        obtain ⟨x, hx⟩ : ∃ x, X1.getD j 0 = x := ⟨_, rfl⟩
                        rw [hx] at hxw
                        have HXJ := Lib.hid hx
                        obtain ⟨qq, hqq⟩ : ∃ qq : Nat, ls - 1 = qq := ⟨_, rfl⟩
                        rw [hqq] at hc0
                        have hix : IntKind.i64.wrap ((ls : Int) - 1) = (qq : Int) := by rw [IntWalk.i64_in _ (by omega)]; omega
                        have hlt : (qq : Int) < (ls : Int) := by omega
                        clear hj hE hcw hx
                        go_wp2_with fail
                        refine wp_region_seqS ((fun w' => AtC w' cb t s 0 0 ∧ w'.cell? ⟨g, qq, none⟩ = some (i64 j) ∧ w'.cell? ⟨hw, j, none⟩ = some (u64 x))) ((0, true) :: (1, true) :: (2, true) :: (3, true) :: (4, true) :: (5, true) :: (6, true) :: (7, true) :: (8, true) :: (9, true) :: (10, true) :: (11, true) :: (12, true) :: (13, true) :: (14, true) :: (15, true) :: (16, true) :: (17, false) :: (18, true) :: []) (by kernel_rfl) (by kernel_rfl) (by kernel_rfl) (by decide) (fun _ _ _ _ _ h => h) (⟨HA.out.later HH4.out.drew.below Hs.out, hc0, hxw⟩) ?_
                        replace HH4 := Lib.hid HH4.out.drew
                        have HC0 : Hid (wo.drew.cell? ⟨g, qq, none⟩ = some (i64 (j : Nat))) := hc0
                        have HXW : Hid (wo.drew.cell? ⟨hw, j, none⟩ = some (u64 x)) := hxw
                        clear hc0 hxw
                        repeat (first | (refine seq_take (v := ?_) rfl ?_ ?_ ?_; rotate_left 1; rfl; (focus (intro wS hSw; obtain ⟨⟨k0, k1, k2, k3⟩, d0, d1⟩ := hSw; go_simp; first | done | with_reducible rfl)); (try simp only [Act.put, List.setIfInBounds_toArray, List.set_cons_zero, List.set_cons_succ])) | (refine seq_skip rfl ?_ ?_; rfl; (try simp only [Act.put, List.setIfInBounds_toArray, List.set_cons_zero, List.set_cons_succ])))
                        refine seq_run rfl (fun K hK => ?_)
                        go_simp
                        go_at_call 22
                        refine (tanew_any _ t s 0 0 who j x).mono ?_
                        rintro r wq ⟨xb, rfl, hO, hb, hxb⟩
                        (try go_wp2_with fail)
                        have hd0 := (hb.cell (p := ⟨g, qq, none⟩) (World.block_lt_of_cell? _ _ HC0.out)).trans HC0.out
                        have hd1 := (hb.cell (p := ⟨hw, j, none⟩) (World.block_lt_of_cell? _ _ HXW.out)).trans HXW.out
                        have HH5 : Hid (GS W wq p c p' c' C L C (L ++ k.sn.ev C) b k [tObj W.heap.size xb (ta0 t s 0 0 who j x).list]) := HH4.out.fresh hb (tObj_ok _ _ _) ⟨hO, Nat.le_trans HH4.out.size hxb⟩ (fun q hq => by cases hq; exact hxb)
                        clear hO hb hxb HH4
                        refine hK.out _ _ (⟨HA.out.later HH5.out.below Hs.out, hd0, hd1⟩) (fun _ => ?_)
                        (try simp only [Act.put, List.setIfInBounds_toArray, List.set_cons_zero, List.set_cons_succ])
                        clear hK K
                        repeat (first | (refine seq_take (v := ?_) rfl ?_ ?_ ?_; rotate_left 1; rfl; (focus (intro wS hSw; obtain ⟨⟨k0, k1, k2, k3⟩, d0, d1⟩ := hSw; go_simp; first | done | with_reducible rfl)); (try simp only [Act.put, List.setIfInBounds_toArray, List.set_cons_zero, List.set_cons_succ])) | (refine seq_skip rfl ?_ ?_; rfl; (try simp only [Act.put, List.setIfInBounds_toArray, List.set_cons_zero, List.set_cons_succ])))
                        refine seq_done ?_
                        clear hd0 hd1
                        go_wp2_with fail
                        go_meet
                        obtain ⟨e1, e2, e3, e4⟩ := st_done (N := N) (hz := hz) (C := C) (z := (j : Int)) HP0.out HTN.out HD.out (by rw [HX1.out, show k.e = ee from HSM.out.e, HE1.out]; exact HEE.out)
                        have hta0 : ta0 k.t k.s k.so k.d k.who (j : Int) x = ta0 t s 0 0 who j x := by rw [show k.t = t from HSM.out.t, show k.s = s from HSM.out.s, show k.so = 0 from HSM.out.so, show k.d = 0 from HSM.out.d, show k.who = who from HSM.out.who]
                        rw [if_neg (by omega), HX1.out, Int.toNat_natCast, HXJ.out, hta0] at e2
                        exact ⟨{ k with sn := k.sn.step C, ta := some (ta0 t s 0 0 who j x) }, _, by rw [show ({ k with sn := k.sn.step C, ta := some (ta0 t s 0 0 who j x) } : Ge).ph = 0 from HP0.out], rfl, by rw [Ge.val0 (k := { k with sn := k.sn.step C, ta := some (ta0 t s 0 0 who j x) }) HP0.out], ⟨(j : Int), e1, e2.symm⟩, ⟨(fun _ h => by cases h), fun _ y h => by cases h; exact ⟨xb, rfl, rfl⟩⟩, by rw [e3, e4]; exact HH5⟩
                · have q1 : ((k.sn.step C).ph == 1) = false := by simp [hd]
                  have HD := Lib.hid hd
                  clear hd hta
                  as_aux_lemma =>
                    go_wp2_with fail
                    refine HSN.out.mono ?_
                    rintro r wm ⟨rfl, hH⟩
                    have HH2 := Lib.hid hH
                    clear hH HSN HH
                    go_wp2_with fail
                    go_meet
                    obtain ⟨e1, e2, e3, e4⟩ := st_more (N := N) (hz := hz) (C := C) HP0.out HTN.out HD.out
                    exact ⟨{ k with sn := k.sn.step C }, _, by rw [show ({ k with sn := k.sn.step C } : Ge).ph = 0 from HP0.out], rfl, by rw [Ge.val0 (k := { k with sn := k.sn.step C }) HP0.out], ⟨0, e1, e2.symm⟩, ⟨fun _ _ => ⟨rfl, ba, ga, rfl, rfl⟩, fun _ a h => by rw [show ({ k with sn := k.sn.step C } : Ge).ta = none from HTN.out] at h; cases h⟩, by rw [e3, e4]; exact HH2⟩
              | some a =>
                as_aux_lemma =>
                  obtain ⟨xb, rfl, rfl⟩ := HF.out.t hp a hta
                  obtain ⟨a1, a2⟩ := HK.out.ta hp a hta
                  have HTK := Lib.hid (HH.out.take a1 (by have := HL.out; omega))
                  have HPH := Lib.hid (go_phs (j := a.slot.toNat) (jv := N + a.slot.toNat) (C := C) a2)
                  have HST := Lib.hid (st_take (N := N) (hz := hz) (C := C) hp hta)
                  have HP0 := Lib.hid hp
                  have HTN := Lib.hid hta
                  rw [hp, Ge.val0 hp]
                  clear hp hta a1 a2 HF
                  obtain ⟨a', ha'⟩ : ∃ a', a.go a.slot.toNat (N + a.slot.toNat) C = a' := ⟨_, rfl⟩
                  rw [ha'] at HTK HPH HST
                  clear ha'
                  go_wp2_with fail
                  refine HTK.out.mono ?_
                  rintro r wm ⟨rfl, hH⟩
                  have HH2 := Lib.hid hH
                  clear hH HTK HH
                  rcases HPH.out with h | h | h
                  · rw [h]
                    have HPA := Lib.hid h
                    clear h
                    go_wp2_with fail
                    go_meet
                    obtain ⟨e1, e2, e3, e4⟩ := HST.out
                    have e5 : k.step N hz C 0 = { k with ta := some a' } := by
                      rw [e2]
                      unfold Ge.grab
                      rw [if_neg (by rw [HPA.out]; decide), if_neg (by rw [HPA.out]; decide)]
                    exact ⟨{ k with ta := some a' }, _, by rw [show ({ k with ta := some a' } : Ge).ph = 0 from HP0.out], rfl, by rw [Ge.val0 (k := { k with ta := some a' }) HP0.out], ⟨0, e1, e5.symm⟩, ⟨(fun _ h => by cases h), fun _ y h => by cases h; exact ⟨xb, rfl, rfl⟩⟩, by rw [e3, e4]; exact HH2⟩
                  · rw [h]
                    have HPA := Lib.hid h
                    clear h
                    obtain ⟨y, hy⟩ : ∃ y, a'.value = y := ⟨_, rfl⟩
                    have HYV := Lib.hid hy
                    clear hy
                    go_wp2_with fail
                    refine (HH2.out.value y (by rw [if_pos HPA.out]; exact HYV.out)).mono ?_
                    rintro r wn ⟨rfl, hb⟩
                    replace HH2 := Lib.hid (HH2.out.later hb)
                    clear hb
                    go_wp2_with fail
                    go_meet
                    obtain ⟨e1, e2, e3, e4⟩ := HST.out
                    have e5 : k.step N hz C 0 = { k with ta := some a', ph := 1 } := by
                      rw [e2]
                      unfold Ge.grab
                      rw [if_pos HPA.out]
                    exact ⟨{ k with ta := some a', ph := 1 }, _, rfl, rfl, (by
                      show _ = Value.int .u64 (if (1 : Int) = 1 then (if a'.ph = 1 then a'.value else 0) else 0)
                      rw [if_pos rfl, if_pos HPA.out, HYV.out]), ⟨0, e1, e5.symm⟩, ⟨(fun h => by have h9 : (1 : Int) = 0 := h; omega), (fun h => by have h9 : (1 : Int) = 0 := h; omega)⟩, by rw [e3, e4]; exact HH2⟩
                  · rw [h]
                    have HPA := Lib.hid h
                    clear h
                    have hktr : k.tries ≤ 300 ∧ 0 ≤ k.tries := ⟨by have := HPT.out.2; omega, HK.out.t0⟩
                    obtain ⟨ktr, hkt⟩ : ∃ x, k.tries = x := ⟨_, rfl⟩
                    have HKT := Lib.hid hkt
                    rw [hkt] at hktr ⊢
                    obtain ⟨hkt1, hkt2⟩ := hktr
                    clear hkt
                    obtain ⟨q0, q1, q2, q3⟩ := HA.out.later HH2.out.below Hs.out
                    go_wp2_with fail
                    refine (snnew_any W.heap.size _ t s 0 0 who a3 N N hlay rfl HH2.out.size).mono ?_
                    rintro r wn ⟨ba, ga, rfl, hS7, hb7, hba, hga⟩
                    have HH3 := Lib.hid (HH2.out.fresh hb7 (tSn_ok _ _ _ _) hS7 (fun q hq => by rcases hq with rfl | rfl; exact hba; exact hga))
                    clear hS7 hb7 hba hga q0 q1 q2 q3 HH2
                    go_wp2_with fail
                    go_meet
                    obtain ⟨e1, e2, e3, e4⟩ := HST.out
                    have e5 : k.step N hz C 0 = { k with tries := k.tries + 1, sn := sn0 t s 0 0 who (IntKind.u64.wrap a3 % N) N, ta := none } := by
                      rw [e2]
                      unfold Ge.grab
                      rw [if_neg (by rw [HPA.out]; decide), if_pos HPA.out, show k.t = t from HSM.out.t, show k.s = s from HSM.out.s, show k.so = 0 from HSM.out.so, show k.d = 0 from HSM.out.d, show k.who = who from HSM.out.who, show k.start = a3 from HSM.out.start]
                    exact ⟨{ k with tries := k.tries + 1, sn := sn0 t s 0 0 who (IntKind.u64.wrap a3 % N) N, ta := none }, _, (by
                      show _ = Value.int .i64 k.ph
                      rw [HP0.out]), (by
                      show _ = Value.int .i64 (k.tries + 1)
                      rw [HKT.out]), (by rw [Ge.val0 (k := { k with tries := k.tries + 1, sn := sn0 t s 0 0 who (IntKind.u64.wrap a3 % N) N, ta := none }) HP0.out]), ⟨0, e1, e5.symm⟩, ⟨fun _ _ => ⟨rfl, ba, ga, rfl, rfl⟩, (fun _ y h => by cases h)⟩, by rw [e3, e4]; exact HH3⟩
            · skip
              as_aux_lemma =>
                have qph : (k.ph != 0) = true := by simp [hp]
                have HR := Lib.hid (st_rest (N := N) (hz := hz) (C := C) hp)
                clear hp
                go_wp2_with fail
                go_meet
                exact ⟨k, R, rfl, rfl, rfl, ⟨0, HR.out.1, HR.out.2.1.symm⟩, HF, by rw [HR.out.2.2.1, HR.out.2.2.2, List.append_nil]; exact HH⟩
          case rest =>
            as_aux_lemma =>
              clear HH HF
              obtain ⟨k', R', rfl, rfl, rfl, HZ, HFT, HH⟩ := hcut
              obtain ⟨l2, hl2⟩ : ∃ l2 : Nat, (L ++ k.ev N hz C).length = l2 := ⟨_, rfl⟩
              have HL2 := Lib.hid hl2
              have hl2b : l2 ≤ 42000 := by rw [← hl2, List.length_append]; have := HL.out; have := Ge.ev_le k N hz C; omega
              clear hl2
              go_wp2_with fail
              refine (HH.out.call HK.out (by have := HL.out; omega)).mono ?_
              rintro r wm ⟨z', hz', rfl, hH⟩
              have hkk : k.step N hz C z' = k' := by
                obtain ⟨z, h1, h2⟩ := HZ.out
                rw [h2]
                exact Ge.step_one HK.out HH.out.fit hz' h1
              have hnx := HK.out.next hz' (fun _ => by have := HPT.out.1; omega) (by have := HPT.out.2; omega) HH.out.fit
              have hsm := k.step_same N hz C z'
              have hta := Ge.step_ta (N := N) (hz := hz) (C := C) (z := z') HTA.out
              rw [hkk] at hH hnx hsm hta ⊢
              have HH2 := Lib.hid hH
              have HK2 := Lib.hid hnx.1
              have HPT2 : Hid (k'.sn.passes ≤ ((n + 1 : Nat) : Int) ∧ k'.tries ≤ ((n + 1 : Nat) : Int)) := ⟨by have := hnx.2.1; have := HPT.out.1; omega, by have := hnx.2.2.1; have := HPT.out.2; omega⟩
              have HSM2 := Lib.hid (HSM.out.trans hsm)
              have HTA2 := Lib.hid hta
              have HL3 : Hid ((L ++ k.ev N hz C).length ≤ 100 + (n + 1) * 200) := by have := HLz.out; have := Ge.ev_le k N hz C; show _ ≤ _; rw [List.length_append]; omega
              clear hkk hnx hsm hta hH hz' HH HK HPT HSM HTA HZ HL HLz HCL
              generalize k.cells N hz C = C' at HH2 HK2
              generalize L ++ k.ev N hz C = L' at HH2 HL2 HL3
              obtain ⟨kph, hkph⟩ : ∃ x, k'.ph = x := ⟨_, rfl⟩
              obtain ⟨ktr, hktr⟩ : ∃ x, k'.tries = x := ⟨_, rfl⟩
              obtain ⟨kv, hkv⟩ : ∃ x, k'.val = x := ⟨_, rfl⟩
              rw [hkph, hktr, hkv]
              have HKP := Lib.hid hkph
              have HKT := Lib.hid hktr
              have HKV := Lib.hid hkv
              clear hkph hktr hkv
              obtain ⟨v1, hm1⟩ := HH2.out.mem1
              obtain ⟨v2, hm2⟩ := HH2.out.mem2
              have HM1 := Lib.hid hm1
              have HM2 := Lib.hid hm2
              clear hm1 hm2
              go_wp2_with fail
              refine (count0_at W.heap.size _ p c v1 C' L' l2 HM1.out HL2.out).mono ?_
              rintro r wr2 ⟨rfl, hb⟩
              replace HH2 := Lib.hid (HH2.out.later hb)
              replace HM2 := Lib.hid (HM2.out.later hb)
              clear hb HM1
              go_wp2_with fail
              refine (count0_at W.heap.size _ p' c' v2 C' L' l2 HM2.out HL2.out).mono ?_
              rintro r wr3 ⟨rfl, hb⟩
              replace HH2 := Lib.hid (HH2.out.later hb)
              clear hb HM2
              obtain ⟨R2, hg⟩ := HH2.out.get
              have HG := Lib.hid hg
              clear hg
              go_wp2_with fail
              refine (HG.out.tries ktr HKT.out).mono ?_
              rintro r wr4 ⟨rfl, hb⟩
              replace HH2 := Lib.hid (HH2.out.later hb)
              replace HG := Lib.hid (HG.out.later hb)
              clear hb
              go_wp2_with fail
              refine (HG.out.value kv HKV.out HTA2.out).mono ?_
              rintro r wr5 ⟨rfl, hb⟩
              replace HH2 := Lib.hid (HH2.out.later hb)
              clear hb HG
              go_wp2_with fail
              go_roundw
              case rel => exact ⟨n + 1, C', L', k', R', _, _, by omega, rfl, rfl, by go_num, by rw [HKP.out], by rw [HKT.out], by rw [HKV.out], HFT, HH2, HK2, HSM2, HL3, HPT2, HTA2⟩
              case measure => first | omega | (simp [intOf]; done) | (simp [intOf]; omega)
    · have hlt' : ¬ (n : Int) < 10 * (N : Int) + 40 := by omega
      as_aux_lemma =>
        have hLn : L.length ≤ 41000 := by have := HLL.out; omega
        obtain ⟨l, hl⟩ : ∃ l : Nat, L.length = l := ⟨_, rfl⟩
        have HLl := Lib.hid hl
        have hl200 : l ≤ 41000 := by omega
        clear HK HSM HF HPT HTA HKT HKV hl HLL
        obtain ⟨vm1, hm1⟩ := HH.out.mem1
        have HM1 := Lib.hid hm1
        clear hm1
        go_wp2_with fail
        refine (log_any W.heap.size _ p c _ _ L HM1.out (by omega)).mono ?_
        rintro r w5 ⟨lv, rfl, hrow, hb5⟩
        replace HH := Lib.hid (HH.out.later hb5)
        clear hb5 HM1
        obtain ⟨A1, cap1, rfl⟩ := own_shape hrow
        have HA1 := Lib.hid (fun hne => GAtE.row hrow hne)
        have HC1 : Hid (L.length ≤ cap1) := by
          rcases hrow.2 with ⟨hv, h0⟩ | ⟨g, cap', cur, hv, _, _, hnc, _⟩
          · show _ ≤ _; omega
          · cases hv; exact hnc
        clear hrow
        obtain ⟨vm2, hm2⟩ := HH.out.mem2
        have HM2 := Lib.hid hm2
        clear hm2
        go_wp2_with fail
        refine (log_any W.heap.size _ p' c' _ _ L HM2.out (by omega)).mono ?_
        rintro r w6 ⟨lv, rfl, hrow, hb6⟩
        have HB6 := Lib.hid hb6
        replace HH := Lib.hid (HH.out.later hb6)
        clear hb6 HM2
        obtain ⟨A2, cap2, rfl⟩ := own_shape hrow
        have HA2 := Lib.hid (fun hne => GAtE.row hrow hne)
        have HC2 : Hid (L.length ≤ cap2) := by
          rcases hrow.2 with ⟨hv, h0⟩ | ⟨g, cap', cur, hv, _, _, hnc, _⟩
          · show _ ≤ _; omega
          · cases hv; exact hnc
        clear hrow
        rw [HLl.out]
        have HW6 := Lib.hid (Below.refl w6.heap.size w6)
        go_wp2_with fail
        go_loopw [215] (fun i wr => ∃ j : Nat, j ≤ l ∧ i = .int .i64 j ∧ Hid (Below w6.heap.size w6 wr)) (fun i _ => l - (intOf i).toNat)
        case atStart => exact ⟨0, by omega, rfl, HW6⟩
        case round =>
          clear HW6
          obtain ⟨j, hj, rfl, HW6⟩ := hrel
          rcases Nat.lt_or_ge j l with hjl | hjl
          · have hjl' : (j : Int) < (l : Int) := by omega
            have hne : L ≠ [] := fun h => by have := HLl.out; rw [h] at this; simp at this; omega
            obtain ⟨g1, o1, rfl, hg1, hc1⟩ := HA1.out hne
            obtain ⟨g2, o2, rfl, hg2, hc2⟩ := HA2.out hne
            obtain ⟨e, he⟩ : ∃ e : Ev, L[j]? = some e := ⟨_, List.getElem?_eq_getElem (by rw [HLl.out]; exact hjl)⟩
            obtain ⟨x0, x1, x2, x3, x4, x5⟩ := hc1 j e he
            obtain ⟨y0, y1, y2, y3, y4, y5⟩ := hc2 j e he
            have hbb : Below w5.heap.size w5 wr := below_step' HB6.out HW6.out HB6.out.size
            replace x0 := (hbb.cell (p := ⟨g1, _, none⟩) hg1).trans x0
            replace x1 := (hbb.cell (p := ⟨g1, _, none⟩) hg1).trans x1
            replace x2 := (hbb.cell (p := ⟨g1, _, none⟩) hg1).trans x2
            replace x3 := (hbb.cell (p := ⟨g1, _, none⟩) hg1).trans x3
            replace x4 := (hbb.cell (p := ⟨g1, _, none⟩) hg1).trans x4
            replace x5 := (hbb.cell (p := ⟨g1, _, none⟩) hg1).trans x5
            replace y0 := (HW6.out.cell (p := ⟨g2, _, none⟩) hg2).trans y0
            replace y1 := (HW6.out.cell (p := ⟨g2, _, none⟩) hg2).trans y1
            replace y2 := (HW6.out.cell (p := ⟨g2, _, none⟩) hg2).trans y2
            replace y3 := (HW6.out.cell (p := ⟨g2, _, none⟩) hg2).trans y3
            replace y4 := (HW6.out.cell (p := ⟨g2, _, none⟩) hg2).trans y4
            replace y5 := (HW6.out.cell (p := ⟨g2, _, none⟩) hg2).trans y5
            obtain ⟨ewho, eop, ecell, eold, enew, eok⟩ := e
            simp only at x0 x1 x2 x3 x4 x5 y0 y1 y2 y3 y4 y5
            have hc1' := HC1.out
            have hc2' := HC2.out
            rw [HLl.out] at hc1' hc2'
            clear hc1 hc2 he hbb hne
            go_wp2_with fail
            refine wp_region_seqS ((fun w' => (w'.cell? ⟨g1, o1 + j * 6, none⟩ = some (.int .i64 ewho) ∧ w'.cell? ⟨g1, o1 + j * 6 + 1, none⟩ = some (.int .i64 eop) ∧ w'.cell? ⟨g1, o1 + j * 6 + 2, none⟩ = some (.int .i64 ecell) ∧ w'.cell? ⟨g1, o1 + j * 6 + 3, none⟩ = some (.int .u64 eold) ∧ w'.cell? ⟨g1, o1 + j * 6 + 4, none⟩ = some (.int .u64 enew) ∧ w'.cell? ⟨g1, o1 + j * 6 + 5, none⟩ = some (.bool eok)) ∧ (w'.cell? ⟨g2, o2 + j * 6, none⟩ = some (.int .i64 ewho) ∧ w'.cell? ⟨g2, o2 + j * 6 + 1, none⟩ = some (.int .i64 eop) ∧ w'.cell? ⟨g2, o2 + j * 6 + 2, none⟩ = some (.int .i64 ecell) ∧ w'.cell? ⟨g2, o2 + j * 6 + 3, none⟩ = some (.int .u64 eold) ∧ w'.cell? ⟨g2, o2 + j * 6 + 4, none⟩ = some (.int .u64 enew) ∧ w'.cell? ⟨g2, o2 + j * 6 + 5, none⟩ = some (.bool eok)))) ((0, true) :: (1, true) :: (2, true) :: (3, true) :: (4, true) :: (5, true) :: (6, true) :: (7, true) :: (8, true) :: []) (by kernel_rfl) (by kernel_rfl) (by kernel_rfl) (by decide) (fun _ _ _ _ _ h => h) (⟨⟨x0, x1, x2, x3, x4, x5⟩, y0, y1, y2, y3, y4, y5⟩) ?_
            have HW7 : Hid (Below w6.heap.size w6 wr.drew) := HW6.out.drew
            clear x0 x1 x2 x3 x4 x5 y0 y1 y2 y3 y4 y5
            repeat (first | (refine seq_take (v := ?_) rfl ?_ ?_ ?_; rotate_left 1; rfl; (focus (intro wS hSw; obtain ⟨⟨x0, x1, x2, x3, x4, x5⟩, y0, y1, y2, y3, y4, y5⟩ := hSw; go_simp; first | done | with_reducible rfl)); (try simp only [Act.put, List.setIfInBounds_toArray, List.set_cons_zero, List.set_cons_succ])) | (refine seq_skip rfl ?_ ?_; rfl; (try simp only [Act.put, List.setIfInBounds_toArray, List.set_cons_zero, List.set_cons_succ])))
            refine seq_done ?_
            clear hc1' hc2'
            go_wp2_with fail
            go_roundw
            case rel => exact ⟨j + 1, by omega, by go_num, HW7⟩
            case measure => first | omega | (simp [intOf]; done) | (simp [intOf]; omega)
          · have hjl' : ¬ (j : Int) < (l : Int) := by omega
            have HHf := Lib.hid (HH.out.later HW6.out)
            obtain ⟨R2, hg⟩ := HHf.out.get
            have HG := Lib.hid hg
            clear hg
            go_wp2_with fail
            refine (HG.out.phase kph HKP.out).mono ?_
            rintro r wz ⟨rfl, hb⟩
            have hbf := Lib.hid (below_step' HB.out (HG.out.later hb).below HB.out.size)
            clear hb
            go_wp2_with fail
            go_ret
            exact ⟨rfl, hbf.out⟩

end Go.Proofs.Yticphioeipbnmaa
