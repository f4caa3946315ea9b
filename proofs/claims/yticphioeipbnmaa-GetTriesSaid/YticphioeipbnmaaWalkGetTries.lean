/-
  GetTries answers true for all lists and numbers, and leaves all memory that was there as it was. No condition.
-/
import Derived.Test.YticphioeipbnmaaGetTriesPure
import Derived.Deep.DeepCutAuto
namespace Go.Proofs.Yticphioeipbnmaa
open Go.RowKit
set_option linter.unusedVariables false
attribute [local go_sem ↓] fld0

theorem chaz_at (t s so d n i : Int) (j : Nat) (w : World) (h : Lay t s n) (i0 : 0 ≤ i) (i1 : i ≤ t) (hj : (j : Int) = 2 * n + i) :
    Calls Try.prog 35 #[cf t s so d, i64 i] w fun r w' => r = .returned (i64 j) ∧ Below w.heap.size w w' := by
  rw [hj]
  exact chazard_any t s so d n i w h i0 i1

set_option maxRecDepth 100000 in
set_option maxHeartbeats 8000000 in
theorem walk_GetTries (a0 : Int) (a1 : Int) (a2 : Int) (a3 : Bool) (a4 : Option Addr) (len4 cap4 : Nat) (a5 : Int) (w : World) (w0 : (Lit.int .i64 a0).wf = true) (w1 : (Lit.int .i64 a1).wf = true) (w2 : (Lit.int .i64 a2).wf = true) (w4 : IsRows w [.inl .i64, .inl .i64, .inl .i64, .inl .i64, .inr true, .inl .u64] a4 len4 cap4) (w5 : (Lit.int .i64 a5).wf = true) :
    Calls Try.prog 6 #[.int .i64 a0, .int .i64 a1, .int .i64 a2, .bool a3, .slice a4 len4 cap4, .int .i64 a5] w fun e w' => e = .returned (.bool true) ∧ Below w.heap.size w w' := by
  clear w0 w1 w2 w5
  rcases Nat.lt_or_ge 64 len4 with hbig | hs4
  · have hbig' : (64 : Int) < (len4 : Int) := by omega
    clear w4
    go_enter Try.func6, Try.ntmps6
    go_wp2_with fail
    refine (head11_any _).mono ?_
    rintro e w1 ⟨rfl, hb1⟩
    go_wp2_with fail
    go_ret
    exact ⟨rfl, hb1⟩
  have p4 : decide ((64 : Int) < (len4 : Int)) = false := decide_eq_false (by omega)
  obtain ⟨tb, off, X, hX⟩ := rows_things w4
  have HX : Hid (IsThs w a4 len4 cap4 tb off X) := hX
  obtain ⟨tu, htu, lu, gu⟩ : ∃ u, bits .and .i64 a5 7 = u ∧ 0 ≤ u ∧ u ≤ 7 := ⟨_, and_7 a5, by omega, by omega⟩
  clear w4 hX
  go_enter Try.func6, Try.ntmps6
  go_wp2_with fail
  refine (head11_any _).mono ?_
  rintro e w1 ⟨rfl, hb1⟩
  go_wp2_with fail
  refine (conf2_any _ _ _).mono ?_
  rintro e w2 ⟨t, s, rfl, t1, t2, s1, s2, hb2⟩
  have ht0 : (t == 0) = false := by simp; omega
  have hB2 := Lib.hid (below_step hb1 hb2)
  clear hb1 hb2
  obtain ⟨N, hNe, hlay, hN1, hN2⟩ := lay44 t1 t2 s1 s2
  have hn0 : ¬ N = 0 := by omega
  clear hNe
  go_wp2_with fail
  have hA := AtC.made w2 t s 0 0
  have hB3 := below_new (Below.refl w2.heap.size w2) (.cells #[.int .i64 t, .int .i64 s, .int .i64 0, .int .i64 0] 27)
  have hs3 : w2.heap.size < (w2.alloc (.cells #[.int .i64 t, .int .i64 s, .int .i64 0, .int .i64 0] 27)).heap.size := by simp
  have HA := Lib.hid hA
  have HB := Lib.hid (below_step hB2.out hB3)
  have Hs := Lib.hid hs3
  clear hA hB3 hs3 hB2
  generalize w2.alloc (.cells #[.int .i64 t, .int .i64 s, .int .i64 0, .int .i64 0] 27) = W at HA HB Hs ⊢
  generalize w2.heap.size = cb at HA Hs ⊢
  clear w2 w1
  obtain ⟨M, hM⟩ : ∃ M : Nat, 2 * (N : Int) + 2 * t = (M : Int) := ⟨(2 * (N : Int) + 2 * t).toNat, by omega⟩
  have HM := Lib.hid hM
  clear hM
  refine (things_any W.heap.size t s 0 0 N M HM.out a4 len4 cap4 tb off X _ hlay (Nat.le_refl _) (HX.out.later HB.out (fun i hi => (HX.out i hi).2.2.1))).mono ?_
  rintro r w3 ⟨p, c, v0, rfl, hM3, hb3, hf3⟩
  have HH1 : Hid (Hold W w3 [tMem W.heap.size p c v0 (thC X N (List.replicate M 0) (min N len4)) (thL X N (List.replicate M 0) (min N len4))]) := (Hold.nil (Below.refl _ _)).more hb3 (tMem_ok _ _ _ _ _ _) hM3 hf3
  have hzero : (thC X N (List.replicate M 0) (min N len4)).getD (2 * N) 0 = 0 := thC_hi _ _ (Nat.min_le_left _ _) (Nat.le_refl _)
  clear hM3 hb3 hf3 HX
  obtain ⟨C0, hC0⟩ : ∃ C0, thC X N (List.replicate M 0) (min N len4) = C0 := ⟨_, rfl⟩
  obtain ⟨L0, hL0⟩ : ∃ L0, thL X N (List.replicate M 0) (min N len4) = L0 := ⟨_, rfl⟩
  have HCL : Hid ((C0.length : Int) = 2 * N + 2 * t) := by show _ = _; rw [← hC0, thC_len, List.length_replicate]; exact HM.out.symm
  have HLL : Hid (L0.length ≤ 100 + 0) := by show _ ≤ _; rw [← hL0, thL_len]; omega
  rw [hC0, hL0] at HH1
  have HC0F := Lib.hid (take_fit (Hold.first HH1.out).fit N)
  rw [hC0] at hzero
  have HZ0 := Lib.hid hzero
  clear hC0 hL0 hzero
  obtain ⟨ws, hws⟩ : ∃ ws, C0.take N = ws := ⟨_, rfl⟩
  have Hws := Lib.hid hws
  have Hwl : Hid (ws.length = N) := by show _ = _; rw [← hws, List.length_take]; have := HCL.out; omega
  clear hws HC0F
  obtain ⟨q0, q1, q2, q3⟩ := HA.out.later HH1.out.below Hs.out
  go_wp2_with fail
  refine (words_at W.heap.size t s 0 0 N p c v0 C0 ws L0 _ hlay HH1.out.first (by have := HCL.out; omega) Hws.out Hwl.out).mono ?_
  rintro r w4 ⟨g, cap, rfl, hcap, hg1, hg2, hrow, hWW, hb4⟩
  have HW1 := Lib.hid hWW
  replace HH1 := Lib.hid (HH1.out.later hb4)
  clear hb4 hrow q0 q1 q2 q3 hg1 hg2 hWW
  go_wp2_with fail
  refine (row_at0 _ _ cap N ws Hwl.out HW1.out (by omega)).mono ?_
  rintro r w5 ⟨rb, rc, S0, rfl, hord, hown, hb5⟩
  have HORD : Hid (IsOrder (C0.take N) S0) := by show _; rw [Hws.out]; exact hord
  have HH3 : Hid (Hold W w5 [tMem W.heap.size p c v0 C0 L0, tRow W.heap.size 3 1 (.slice rb S0.length rc) S0.length (S0.map (fun i : Nat => i64 (i : Int)))]) := Hold.more HH1.out hb5 (tRow_ok _ _ _ _ _ _) (row_base hown HH1.out.size) (fun q hq => (hown.lt q hq).1)
  have hcp0 := ints_cap hown
  have HSB : Hid (SubAt rb S0 rb S0) := SubAt.start hown
  have hl16 : S0.length ≤ 16 := by have := HORD.out.len; rw [List.length_take] at this; omega
  obtain ⟨l0, hl0⟩ : ∃ l, S0.length = l := ⟨_, rfl⟩
  have Hl0 := Lib.hid hl0
  rw [hl0] at hcp0 hl16
  clear hb5 HW1 hord hown HH1 hl0 Hws Hwl
  rw [Hl0.out]
  obtain ⟨tn, htn⟩ : ∃ tn : Nat, tu = (tn : Int) := ⟨tu.toNat, by omega⟩
  subst htn
  obtain ⟨m0, hm0⟩ : ∃ m0 : Nat, min tn l0 = m0 := ⟨_, rfl⟩
  have hm7 : Hid (m0 ≤ 7) := by show _ ≤ _; omega
  have hmi : min (tn : Int) (l0 : Int) = (m0 : Int) := by omega
  obtain ⟨q0, q1, q2, q3⟩ := HA.out.later (Hold.below HH3.out) Hs.out
  obtain ⟨ee, hee, hee2⟩ : ∃ e : Int, (if a3 then (1 : Int) else 0) = e ∧ (e = 0 ∨ e = 1) := ⟨_, rfl, by cases a3 <;> simp⟩
  have Hee := Lib.hid hee
  clear hee hm0
  go_wp2_with fail
  refine wp_region_seqS ((fun w' => AtC w' cb t s 0 0)) ((0, true) :: (1, true) :: (3, true) :: (2, false) :: (4, false) :: (5, true) :: []) (by kernel_rfl) (by kernel_rfl) (by kernel_rfl) (by decide) (fun _ _ _ _ _ h => h) ((HA.out.later (Hold.below (Hold.drew HH3.out)) Hs.out)) ?_
  replace HH3 := Lib.hid (Hold.drew HH3.out)
  clear q0 q1 q2 q3 htu lu gu hmi
  repeat (first | (refine seq_take (v := ?_) rfl ?_ ?_ ?_; rotate_left 1; rfl; (focus (intro wS hSw; obtain ⟨k0, k1, k2, k3⟩ := hSw; go_simp; first | done | with_reducible rfl)); (try simp only [Act.put, List.setIfInBounds_toArray, List.set_cons_zero, List.set_cons_succ])) | (refine seq_skip rfl ?_ ?_; rfl; (try simp only [Act.put, List.setIfInBounds_toArray, List.set_cons_zero, List.set_cons_succ])))
  refine seq_run rfl (fun K hK => ?_)
  go_simp
  go_at_call 11
  refine (end_at a3 ee _ Hee.out).mono ?_
  rintro r w7 ⟨rfl, hb7⟩
  (try go_wp2_with fail)
  replace HH3 := Lib.hid (Hold.later HH3.out hb7)
  clear hb7
  refine hK.out _ _ ((HA.out.later (Hold.below HH3.out) Hs.out)) (fun _ => ?_)
  (try simp only [Act.put, List.setIfInBounds_toArray, List.set_cons_zero, List.set_cons_succ])
  clear hK K
  repeat (first | (refine seq_take (v := ?_) rfl ?_ ?_ ?_; rotate_left 1; rfl; (focus (intro wS hSw; obtain ⟨k0, k1, k2, k3⟩ := hSw; go_simp; first | done | with_reducible rfl)); (try simp only [Act.put, List.setIfInBounds_toArray, List.set_cons_zero, List.set_cons_succ])) | (refine seq_skip rfl ?_ ?_; rfl; (try simp only [Act.put, List.setIfInBounds_toArray, List.set_cons_zero, List.set_cons_succ])))
  refine seq_run rfl (fun K hK => ?_)
  go_simp
  go_at_call 10
  refine (genew_any W.heap.size _ N t s 0 0 0 ee a2 hlay (Hold.size HH3.out)).mono ?_
  rintro r w8 ⟨b, bs, gs, rfl, hS8, hb8, hbb8⟩
  (try go_wp2_with fail)
  have HH5 : Hid (GeH W w8 p c C0 L0 b (ge0 t s 0 0 0 ee a2 N) [tRow W.heap.size 3 1 (.slice rb S0.length rc) S0.length (S0.map (fun i : Nat => i64 (i : Int)))]) := GeH.begun2 HH3.out hb8 hS8 hbb8
  clear hS8 hb8 hbb8 HH3
  refine hK.out _ _ ((HA.out.later HH5.out.below Hs.out)) (fun _ => ?_)
  (try simp only [Act.put, List.setIfInBounds_toArray, List.set_cons_zero, List.set_cons_succ])
  clear hK K
  repeat (first | (refine seq_take (v := ?_) rfl ?_ ?_ ?_; rotate_left 1; rfl; (focus (intro wS hSw; obtain ⟨k0, k1, k2, k3⟩ := hSw; go_simp; first | done | with_reducible rfl)); (try simp only [Act.put, List.setIfInBounds_toArray, List.set_cons_zero, List.set_cons_succ])) | (refine seq_skip rfl ?_ ?_; rfl; (try simp only [Act.put, List.setIfInBounds_toArray, List.set_cons_zero, List.set_cons_succ])))
  refine seq_done ?_
  obtain ⟨hz, hhz⟩ : ∃ hz : Nat, hz = 2 * N := ⟨_, rfl⟩
  rw [← hhz] at HZ0
  have Hhz : Hid ((hz : Int) = 2 * N + 0) := by show _ = _; omega
  have HG0 : Hid (GT (ge0 t s 0 0 0 ee a2 N) C0 N hz 0 ee S0 m0) := GT.start hlay HCL.out Hhz.out (Int.le_refl _) (by omega) hee2 HORD.out HZ0.out hm7.out
  have HLL0 : Hid (L0.length ≤ 100 + 2 * 0) := HLL.out
  clear HORD HZ0 hhz HLL
  go_wp2_with fail
  go_loopw [5, 15, 17] (fun vm vr vn wr => ∃ (n m : Nat) (k : Ge) (C : List Int) (L : List Ev) (S : List Nat) (A : Option Addr) (ls cp : Nat), vn = .int .i64 n ∧ vm = .int .i64 m ∧ vr = .slice A ls cp ∧ ls ≤ cp ∧ ls ≤ 16 ∧ m ≤ 7 ∧ Hid (S.length = ls) ∧ Hid (SubAt rb S0 A S) ∧ Hid (GeH W wr p c C L b k [tRow W.heap.size 3 1 (.slice rb S0.length rc) S0.length (S0.map (fun i : Nat => i64 (i : Int)))]) ∧ Hid (GT k C N hz n ee S m) ∧ Hid ((C.length : Int) = 2 * N + 2 * t) ∧ Hid (L.length ≤ 100 + 2 * n)) (fun _ _ vn _ => 2000 - (intOf vn).toNat)
  case atStart => exact ⟨0, m0, _, C0, L0, S0, rb, l0, rc, rfl, rfl, rfl, hcp0, hl16, hm7.out, Hl0, HSB, HH5, HG0, HCL, HLL0⟩
  case round =>
    clear HH5 HG0 HCL HLL0 HSB hcp0 Hl0 hl16 hm7
    obtain ⟨n, m, k, C, L, S, A, ls, cp, rfl, rfl, rfl, hcp, hl16, hm7, HSl, HSub, HH, HG, HCL, HLL⟩ := hrel
    have hnb := HG.out.bound hN2
    by_cases hp : k.ph = 0
    · have hnn : (n : Int) < 2000 := by omega
      have HP0 := Lib.hid hp
      have HF := Lib.hid HH.out.fit
      clear hp
      go_wp2_with fail
      refine (HH.out.phase 0 HP0.out).mono ?_
      rintro r wr2 ⟨rfl, hb⟩
      replace HH := Lib.hid (HH.out.later hb)
      clear hb
      go_wp2_with fail
      refine (HH.out.call HG.out.ok (by have := HLL.out; omega)).mono ?_
      rintro r wr3 ⟨z, hz3, rfl, hH⟩
      have hst := HG.out.step HP0.out hN2 hz3 HF.out
      have HL1 : Hid ((L ++ k.ev N hz C).length ≤ 100 + 2 * n + 1) := by have := HLL.out; have := Ge.ev_le k N hz C; show _ ≤ _; rw [List.length_append]; omega
      have HCL1 : Hid (((k.cells N hz C).length : Int) = 2 * N + 2 * t) := by show _ = _; rw [k.cells_len]; exact HCL.out
      replace HH := Lib.hid hH
      clear hH hz3 HG HF HP0 HCL HLL hnn
      generalize k.step N hz C z = k1 at hst HH ⊢
      generalize k.cells N hz C = C1 at hst HH HCL1
      generalize L ++ k.ev N hz C = L1 at HH HL1
      clear k C L
      obtain ⟨pp, hpp⟩ : ∃ pp, k1.ph = pp := ⟨_, rfl⟩
      rw [hpp]
      clear hpp
      rcases hst with ⟨hz0, hG⟩ | ⟨j, hj, hz0, hm2, hG⟩ | ⟨j, m', hj, hm, hz0, hl1, hG, hSl⟩
      · have HG := Lib.hid hG
        have HPK : Hid (C1[hz]? = some 0) := by
          have := getD_at (C := C1) (i := hz) (by have := HCL1.out; have := Hhz.out; omega)
          show _ = _
          rw [this, hz0]
        clear hG hz0
        obtain ⟨q0, q1, q2, q3⟩ := HA.out.later HH.out.below Hs.out
        go_wp2_with fail
        refine (chaz_at t s 0 0 N 0 hz _ hlay (Int.le_refl _) (by omega) Hhz.out).mono ?_
        rintro r wr4 ⟨rfl, hb⟩
        replace HH := Lib.hid (HH.out.later hb)
        clear hb q0 q1 q2 q3
        obtain ⟨v1, hm1⟩ := HH.out.mem
        have HM1 := Lib.hid hm1
        clear hm1
        go_wp2_with fail
        refine (peek_in W.heap.size _ p c _ _ _ hz 0 HM1.out HPK.out).mono ?_
        rintro r wr5 ⟨rfl, rfl⟩
        clear HM1
        go_wp2_with fail
        go_roundw
        case rel => exact ⟨n + 1, m, k1, C1, L1, S, A, ls, cp, by go_num, rfl, rfl, hcp, hl16, hm7, HSl, HSub, HH, HG, HCL1, by have := HL1.out; show _ ≤ _; omega⟩
        case measure => first | omega | (simp [intOf]; done) | (simp [intOf]; omega)
      · have HG := Lib.hid hG
        have HPK : Hid (C1[hz]? = some ((j : Int) + 1)) := by
          have := getD_at (C := C1) (i := hz) (by have := HCL1.out; have := Hhz.out; omega)
          show _ = _
          rw [this, hz0]
        have hj16 : j < 16 := by omega
        have HM2 := Lib.hid hm2
        clear hG hz0 hm2
        obtain ⟨q0, q1, q2, q3⟩ := HA.out.later HH.out.below Hs.out
        go_wp2_with fail
        refine (chaz_at t s 0 0 N 0 hz _ hlay (Int.le_refl _) (by omega) Hhz.out).mono ?_
        rintro r wr4 ⟨rfl, hb⟩
        replace HH := Lib.hid (HH.out.later hb)
        clear hb q0 q1 q2 q3
        obtain ⟨v1, hm1⟩ := HH.out.mem
        have HM1 := Lib.hid hm1
        clear hm1
        go_wp2_with fail
        refine (peek_in W.heap.size _ p c _ _ _ hz ((j : Int) + 1) HM1.out HPK.out).mono ?_
        rintro r wr5 ⟨rfl, rfl⟩
        clear HM1
        have hjN : (j : Int) < (N : Int) := by omega
        obtain ⟨q0, q1, q2, q3⟩ := HA.out.later HH.out.below Hs.out
        go_wp2_with fail
        refine (call_any t s 0 0 N _ hlay).mono ?_
        rintro r wr6 ⟨rfl, hb⟩
        replace HH := Lib.hid (HH.out.later hb)
        clear hb q0 q1 q2 q3
        rcases Nat.eq_zero_or_pos m with rfl | hmp
        · skip
          go_wp2_with fail
          go_roundw
          case rel => exact ⟨n + 1, 0, k1, C1, L1, S, A, ls, cp, by go_num, rfl, rfl, hcp, hl16, hm7, HSl, HSub, HH, HG, HCL1, by have := HL1.out; show _ ≤ _; omega⟩
          case measure => first | omega | (simp [intOf]; done) | (simp [intOf]; omega)
        · have hmp' : (0 : Int) < (m : Int) := by omega
          obtain ⟨x, hx⟩ : ∃ x, C1.getD j 0 = x := ⟨_, rfl⟩
          have hx4 := HM2.out hmp
          rw [hx] at hx4
          obtain ⟨x0, x1⟩ : 0 ≤ x ∧ x ≤ 18446744073709551615 := hx ▸ HH.out.fit j
          have HPX : Hid (C1[j]? = some x) := by
            have := getD_at (C := C1) (i := j) (by have := HCL1.out; omega)
            show _ = _
            rw [this, hx]
          clear hx HM2
          obtain ⟨q0, q1, q2, q3⟩ := HA.out.later HH.out.below Hs.out
          go_wp2_with fail
          refine (gword_at t s 0 0 j j _ rfl).mono ?_
          rintro r wr4 ⟨rfl, hb⟩
          replace HH := Lib.hid (HH.out.later hb)
          clear hb q0 q1 q2 q3
          obtain ⟨v1, hm1⟩ := HH.out.mem
          have HM1 := Lib.hid hm1
          clear hm1
          go_wp2_with fail
          refine (peek_in W.heap.size _ p c _ _ _ j x HM1.out HPX.out).mono ?_
          rintro r wr5 ⟨rfl, rfl⟩
          clear HM1
          go_wp2_with fail
          refine (gunpack_at x 2 _ _ _ _ _ ⟨hx4, rfl, rfl, rfl, rfl, x0, x1⟩).mono ?_
          rintro r wr5 ⟨rfl, hb⟩
          replace HH := Lib.hid (HH.out.later hb)
          clear hb
          clear x0 x1
          go_wp2_with fail
          go_roundw
          case rel => exact ⟨n + 1, m, k1, C1, L1, S, A, ls, cp, by go_num, rfl, rfl, hcp, hl16, hm7, HSl, HSub, HH, HG, HCL1, by have := HL1.out; show _ ≤ _; omega⟩
          case measure => first | omega | (simp [intOf]; done) | (simp [intOf]; omega)
      · have HG := Lib.hid hG
        have HPK : Hid (C1[hz]? = some ((j : Int) + 1)) := by
          have := getD_at (C := C1) (i := hz) (by have := HCL1.out; have := Hhz.out; omega)
          show _ = _
          rw [this, hz0]
        have hj16 : j < 16 := by omega
        have hmp' : (0 : Int) < (m : Int) := by omega
        have HMM : Hid ((m : Int) - 1 = (m' : Int)) := by show _ = _; omega
        have Hm7 : Hid (m' ≤ 7) := by show _ ≤ _; omega
        clear hG hz0 hm
        obtain ⟨q0, q1, q2, q3⟩ := HA.out.later HH.out.below Hs.out
        go_wp2_with fail
        refine (chaz_at t s 0 0 N 0 hz _ hlay (Int.le_refl _) (by omega) Hhz.out).mono ?_
        rintro r wr4 ⟨rfl, hb⟩
        replace HH := Lib.hid (HH.out.later hb)
        clear hb q0 q1 q2 q3
        obtain ⟨v1, hm1⟩ := HH.out.mem
        have HM1 := Lib.hid hm1
        clear hm1
        go_wp2_with fail
        refine (peek_in W.heap.size _ p c _ _ _ hz ((j : Int) + 1) HM1.out HPK.out).mono ?_
        rintro r wr5 ⟨rfl, rfl⟩
        clear HM1
        have hjN : (j : Int) < (N : Int) := by omega
        obtain ⟨q0, q1, q2, q3⟩ := HA.out.later HH.out.below Hs.out
        go_wp2_with fail
        refine (call_any t s 0 0 N _ hlay).mono ?_
        rintro r wr6 ⟨rfl, hb⟩
        replace HH := Lib.hid (HH.out.later hb)
        clear hb q0 q1 q2 q3
        obtain ⟨x, hx⟩ : ∃ x, C1.getD j 0 = x := ⟨_, rfl⟩
        have hx4 := hl1
        rw [hx] at hx4 HG
        obtain ⟨x0, x1⟩ : 0 ≤ x ∧ x ≤ 18446744073709551615 := hx ▸ HH.out.fit j
        have HX0 : Hid (0 ≤ x ∧ x ≤ 18446744073709551615) := ⟨x0, x1⟩
        have HPX : Hid (C1[j]? = some x) := by
          have := getD_at (C := C1) (i := j) (by have := HCL1.out; omega)
          show _ = _
          rw [this, hx]
        obtain ⟨tx, htx⟩ : ∃ tx, tkW x = tx := ⟨_, rfl⟩
        have HTX := Lib.hid htx
        have HTF := Lib.hid (tkW_fit x0 x1)
        rw [htx] at HTF HG
        clear hx hl1 htx
        obtain ⟨q0, q1, q2, q3⟩ := HA.out.later HH.out.below Hs.out
        go_wp2_with fail
        refine (gword_at t s 0 0 j j _ rfl).mono ?_
        rintro r wr4 ⟨rfl, hb⟩
        replace HH := Lib.hid (HH.out.later hb)
        clear hb q0 q1 q2 q3
        obtain ⟨v1, hm1⟩ := HH.out.mem
        have HM1 := Lib.hid hm1
        clear hm1
        go_wp2_with fail
        refine (peek_in W.heap.size _ p c _ _ _ j x HM1.out HPX.out).mono ?_
        rintro r wr5 ⟨rfl, rfl⟩
        clear HM1
        go_wp2_with fail
        refine (gunpack_at x 1 _ _ _ _ _ ⟨hx4, rfl, rfl, rfl, rfl, x0, x1⟩).mono ?_
        rintro r wr5 ⟨rfl, hb⟩
        replace HH := Lib.hid (HH.out.later hb)
        clear hb
        clear x0 x1
        go_wp2_with fail
        refine wp_region_seqS ((fun w' => AtC w' cb t s 0 0)) ((0, true) :: (1, true) :: (2, true) :: (4, true) :: (5, true) :: (6, true) :: (3, false) :: (7, false) :: (8, false) :: (9, false) :: (10, false) :: (11, false) :: (12, false) :: []) (by kernel_rfl) (by kernel_rfl) (by kernel_rfl) (by decide) (fun _ _ _ _ _ h => h) ((HA.out.later HH.out.drew.below Hs.out)) ?_
        replace HH := Lib.hid HH.out.drew
        clear hx4
        repeat (first | (refine seq_take (v := ?_) rfl ?_ ?_ ?_; rotate_left 1; rfl; (focus (intro wS hSw; obtain ⟨k0, k1, k2, k3⟩ := hSw; go_simp; first | done | with_reducible rfl)); (try simp only [Act.put, List.setIfInBounds_toArray, List.set_cons_zero, List.set_cons_succ])) | (refine seq_skip rfl ?_ ?_; rfl; (try simp only [Act.put, List.setIfInBounds_toArray, List.set_cons_zero, List.set_cons_succ])))
        refine seq_run rfl (fun K hK => ?_)
        go_simp
        go_at_call 15
        refine (gword_at t s 0 0 j j _ rfl).mono ?_
        rintro r wr7 ⟨rfl, hb⟩
        (try go_wp2_with fail)
        replace HH := Lib.hid (HH.out.later hb)
        clear hb
        refine hK.out _ _ ((HA.out.later HH.out.below Hs.out)) (fun _ => ?_)
        (try simp only [Act.put, List.setIfInBounds_toArray, List.set_cons_zero, List.set_cons_succ])
        clear hK K
        repeat (first | (refine seq_take (v := ?_) rfl ?_ ?_ ?_; rotate_left 1; rfl; (focus (intro wS hSw; obtain ⟨k0, k1, k2, k3⟩ := hSw; go_simp; first | done | with_reducible rfl)); (try simp only [Act.put, List.setIfInBounds_toArray, List.set_cons_zero, List.set_cons_succ])) | (refine seq_skip rfl ?_ ?_; rfl; (try simp only [Act.put, List.setIfInBounds_toArray, List.set_cons_zero, List.set_cons_succ])))
        refine seq_run rfl (fun K hK => ?_)
        go_simp
        go_at_call 15
        refine (gword_at t s 0 0 j j _ rfl).mono ?_
        rintro r wr7 ⟨rfl, hb⟩
        (try go_wp2_with fail)
        replace HH := Lib.hid (HH.out.later hb)
        clear hb
        refine hK.out _ _ ((HA.out.later HH.out.below Hs.out)) (fun _ => ?_)
        (try simp only [Act.put, List.setIfInBounds_toArray, List.set_cons_zero, List.set_cons_succ])
        clear hK K
        repeat (first | (refine seq_take (v := ?_) rfl ?_ ?_ ?_; rotate_left 1; rfl; (focus (intro wS hSw; obtain ⟨k0, k1, k2, k3⟩ := hSw; go_simp; first | done | with_reducible rfl)); (try simp only [Act.put, List.setIfInBounds_toArray, List.set_cons_zero, List.set_cons_succ])) | (refine seq_skip rfl ?_ ?_; rfl; (try simp only [Act.put, List.setIfInBounds_toArray, List.set_cons_zero, List.set_cons_succ])))
        refine seq_run rfl (fun K hK => ?_)
        go_simp
        go_at_call 33
        obtain ⟨v3, hm3⟩ := HH.out.mem
        refine (quiet_below (peek_in W.heap.size _ p c _ _ _ j x hm3 HPX.out)).mono ?_
        rintro r wr7 ⟨rfl, hb⟩
        (try go_wp2_with fail)
        replace HH := Lib.hid (HH.out.later hb)
        clear hb hm3
        refine hK.out _ _ ((HA.out.later HH.out.below Hs.out)) (fun _ => ?_)
        (try simp only [Act.put, List.setIfInBounds_toArray, List.set_cons_zero, List.set_cons_succ])
        clear hK K
        repeat (first | (refine seq_take (v := ?_) rfl ?_ ?_ ?_; rotate_left 1; rfl; (focus (intro wS hSw; obtain ⟨k0, k1, k2, k3⟩ := hSw; go_simp; first | done | with_reducible rfl)); (try simp only [Act.put, List.setIfInBounds_toArray, List.set_cons_zero, List.set_cons_succ])) | (refine seq_skip rfl ?_ ?_; rfl; (try simp only [Act.put, List.setIfInBounds_toArray, List.set_cons_zero, List.set_cons_succ])))
        refine seq_run rfl (fun K hK => ?_)
        go_simp
        go_at_call 36
        refine (unpack_any x _ HX0.out.1 HX0.out.2).mono ?_
        rintro r wr7 ⟨rfl, hb⟩
        (try go_wp2_with fail)
        replace HH := Lib.hid (HH.out.later hb)
        clear hb
        refine hK.out _ _ ((HA.out.later HH.out.below Hs.out)) (fun _ => ?_)
        (try simp only [Act.put, List.setIfInBounds_toArray, List.set_cons_zero, List.set_cons_succ])
        clear hK K
        repeat (first | (refine seq_take (v := ?_) rfl ?_ ?_ ?_; rotate_left 1; rfl; (focus (intro wS hSw; obtain ⟨k0, k1, k2, k3⟩ := hSw; go_simp; first | done | with_reducible rfl)); (try simp only [Act.put, List.setIfInBounds_toArray, List.set_cons_zero, List.set_cons_succ])) | (refine seq_skip rfl ?_ ?_; rfl; (try simp only [Act.put, List.setIfInBounds_toArray, List.set_cons_zero, List.set_cons_succ])))
        refine seq_run rfl (fun K hK => ?_)
        go_simp
        go_at_call 37
        refine (taken_any _ _ _ _ _ _).mono ?_
        rintro r wr7 ⟨rfl, hb⟩
        (try go_wp2_with fail)
        replace HH := Lib.hid (HH.out.later hb)
        clear hb
        refine hK.out _ _ ((HA.out.later HH.out.below Hs.out)) (fun _ => ?_)
        (try simp only [Act.put, List.setIfInBounds_toArray, List.set_cons_zero, List.set_cons_succ])
        clear hK K
        repeat (first | (refine seq_take (v := ?_) rfl ?_ ?_ ?_; rotate_left 1; rfl; (focus (intro wS hSw; obtain ⟨k0, k1, k2, k3⟩ := hSw; go_simp; first | done | with_reducible rfl)); (try simp only [Act.put, List.setIfInBounds_toArray, List.set_cons_zero, List.set_cons_succ])) | (refine seq_skip rfl ?_ ?_; rfl; (try simp only [Act.put, List.setIfInBounds_toArray, List.set_cons_zero, List.set_cons_succ])))
        refine seq_run rfl (fun K hK => ?_)
        go_simp
        go_at_call 17
        refine (gpack_at 2 _ _ _ _ tx _ (by have := HX0.out; omega) HTX.out).mono ?_
        rintro r wr7 ⟨rfl, hb⟩
        (try go_wp2_with fail)
        replace HH := Lib.hid (HH.out.later hb)
        clear hb
        refine hK.out _ _ ((HA.out.later HH.out.below Hs.out)) (fun _ => ?_)
        (try simp only [Act.put, List.setIfInBounds_toArray, List.set_cons_zero, List.set_cons_succ])
        clear hK K
        repeat (first | (refine seq_take (v := ?_) rfl ?_ ?_ ?_; rotate_left 1; rfl; (focus (intro wS hSw; obtain ⟨k0, k1, k2, k3⟩ := hSw; go_simp; first | done | with_reducible rfl)); (try simp only [Act.put, List.setIfInBounds_toArray, List.set_cons_zero, List.set_cons_succ])) | (refine seq_skip rfl ?_ ?_; rfl; (try simp only [Act.put, List.setIfInBounds_toArray, List.set_cons_zero, List.set_cons_succ])))
        refine seq_run rfl (fun K hK => ?_)
        go_simp
        go_at_call 14
        refine (HH.out.store (-1) j x tx HPX.out (by have := HL1.out; omega) HTF.out.2.1 HTF.out.2.2).mono ?_
        rintro r wr8 ⟨rfl, hH⟩
        (try go_wp2_with fail)
        replace HH := Lib.hid hH
        clear hH
        refine hK.out _ _ ((HA.out.later HH.out.below Hs.out)) (fun _ => ?_)
        (try simp only [Act.put, List.setIfInBounds_toArray, List.set_cons_zero, List.set_cons_succ])
        clear hK K
        repeat (first | (refine seq_take (v := ?_) rfl ?_ ?_ ?_; rotate_left 1; rfl; (focus (intro wS hSw; obtain ⟨k0, k1, k2, k3⟩ := hSw; go_simp; first | done | with_reducible rfl)); (try simp only [Act.put, List.setIfInBounds_toArray, List.set_cons_zero, List.set_cons_succ])) | (refine seq_skip rfl ?_ ?_; rfl; (try simp only [Act.put, List.setIfInBounds_toArray, List.set_cons_zero, List.set_cons_succ])))
        refine seq_done ?_
        have HCL2 : Hid (((C1.set j tx).length : Int) = 2 * N + 2 * t) := by show _ = _; rw [List.length_set]; exact HCL1.out
        have HL2 : Hid ((L1 ++ [(⟨-1, 1, j, x, tx, true⟩ : Ev)]).length ≤ 100 + 2 * (n + 1)) := by have := HL1.out; show _ ≤ _; rw [List.length_append]; simp only [List.length_cons, List.length_nil]; omega
        generalize C1.set j tx = C2 at HH HG HCL2
        generalize L1 ++ [(⟨-1, 1, j, x, tx, true⟩ : Ev)] = L2 at HH HL2
        obtain ⟨S1, hS1⟩ : ∃ S1, lessS ee S = S1 := ⟨_, rfl⟩
        rw [hS1] at hSl HG
        have hls1 : ls = S1.length + 1 := HSl.out.symm.trans hSl
        have HLS1 : Hid (S1.length = ls - 1) := by show _ = _; omega
        have hlp : 0 < ls := by omega
        have HPS : Hid (0 < S.length) := by show _ < _; omega
        have hl15 : Hid (ls - 1 ≤ 16) := by show _ ≤ _; omega
        obtain ⟨v2, hh⟩ := HH.out.rest
        obtain ⟨ga, ao, rfl, hsub, _, _⟩ := HSub.out.cells (Hold.has hh 1 _ rfl) (by have := HSl.out; omega)
        have HSub2 : Hid (SubAt rb S0 (some ⟨ga, ao, none⟩) S) := HSub.out
        have HS1 := Lib.hid hS1
        clear hh hsub HSub hSl hS1 hls1 hmp' HL1 HCL1 HPX HPK
        cases a3
        · have he0 : ee = 0 := Hee.out.symm
          have HE0 := Lib.hid he0
          clear he0
          rcases Nat.lt_or_ge 1 cp with hc2 | hc2
          · skip
            go_wp2_with fail
            go_roundw
            case rel => exact ⟨n + 1, m', k1, C2, L2, S1, _, _, _, by go_num, by rw [HMM.out], rfl, by omega, hl15.out, Hm7.out, HLS1, (by
                have h : SubAt rb S0 (some ⟨ga, ao, none⟩) S := HSub2.out
                have hl := HLS1.out
                have hs : ∃ j', S = j' :: S1 := by
                  have h1 := HS1.out
                  unfold lessS at h1
                  rw [if_pos HE0.out] at h1
                  cases hS : S with
                  | nil => have h9 := HPS.out; rw [hS] at h9; exact absurd h9 (by simp)
                  | cons a t => rw [hS] at h1; exact ⟨a, by rw [← h1]; rfl⟩
                obtain ⟨j', hs⟩ := hs
                rw [hs] at h
                exact SubAt.tail h (fun h0 => rfl)), HH, HG, HCL2, HL2⟩
            case measure => first | omega | (simp [intOf]; done) | (simp [intOf]; omega)
          · obtain rfl : cp = 1 := by omega
            obtain rfl : ls = 1 := by omega
            go_wp2_with fail
            go_roundw
            case rel => exact ⟨n + 1, m', k1, C2, L2, S1, _, _, _, by go_num, by rw [HMM.out], rfl, by omega, hl15.out, Hm7.out, HLS1, (by
                have h : SubAt rb S0 (some ⟨ga, ao, none⟩) S := HSub2.out
                have hl := HLS1.out
                have hs : ∃ j', S = j' :: S1 := by
                  have h1 := HS1.out
                  unfold lessS at h1
                  rw [if_pos HE0.out] at h1
                  cases hS : S with
                  | nil => have h9 := HPS.out; rw [hS] at h9; exact absurd h9 (by simp)
                  | cons a t => rw [hS] at h1; exact ⟨a, by rw [← h1]; rfl⟩
                obtain ⟨j', hs⟩ := hs
                rw [hs] at h
                exact SubAt.tail h (fun h0 => by have := HLS1.out; omega)), HH, HG, HCL2, HL2⟩
            case measure => first | omega | (simp [intOf]; done) | (simp [intOf]; omega)
        · have he1 : ¬ ee = 0 := by have : (1 : Int) = ee := Hee.out; omega
          have HE1 := Lib.hid he1
          obtain ⟨q, hq⟩ : ∃ q : Nat, ls = q + 1 := ⟨ls - 1, by omega⟩
          have hix : wrap64 ((ls : Int) - 1) = (q : Int) := by unfold wrap64; omega
          have hlt : (q : Int) < (ls : Int) := by omega
          have hmc : (q : Int) ≤ (cp : Int) := by omega
          have hmc' : q ≤ cp := by omega
          have HQ : Hid (S1.length = q) := by have := HLS1.out; show _ = _; omega
          clear he1 hq
          go_wp2_with fail
          go_roundw
          case rel => exact ⟨n + 1, m', k1, C2, L2, S1, _, _, _, by go_num, by rw [HMM.out], rfl, by omega, by omega, Hm7.out, (by first | exact HLS1 | exact HQ), (by
              have h : SubAt rb S0 (some ⟨ga, ao, none⟩) S := HSub2.out
              have hs : ∃ j', S = S1 ++ [j'] := by
                have h1 := HS1.out
                unfold lessS at h1
                rw [if_neg HE1.out] at h1
                have hne : S ≠ [] := fun e => by have h9 := HPS.out; rw [e] at h9; exact absurd h9 (by simp)
                exact ⟨S.getLast hne, by rw [← h1]; exact (List.dropLast_concat_getLast hne).symm⟩
              obtain ⟨j', hs⟩ := hs
              rw [hs] at h
              exact SubAt.init h), HH, HG, HCL2, HL2⟩
          case measure => first | omega | (simp [intOf]; done) | (simp [intOf]; omega)
    · rcases HG.out.done hp with ⟨hph, hval, hS⟩ | ⟨j, hph, hj, hval, hta, hS0, hS1, hS2, ht0, ht7⟩
      · obtain rfl : ls = 0 := by have := HSl.out; rw [hS] at this; exact this.symm
        have HPP := Lib.hid hph
        have HV := Lib.hid hval
        clear hph hval hS hp hnb
        go_wp2_with fail
        refine (HH.out.phase 2 HPP.out).mono ?_
        rintro r wr2 ⟨rfl, hb⟩
        replace HH := Lib.hid (HH.out.later hb)
        clear hb
        go_wp2_with fail
        refine (HH.out.phase 2 HPP.out).mono ?_
        rintro r wr3 ⟨rfl, hb⟩
        replace HH := Lib.hid (HH.out.later hb)
        clear hb
        go_wp2_with fail
        refine (HH.out.value 0 HV.out (fun h => by rw [HPP.out] at h; cases h)).mono ?_
        rintro r wr4 ⟨rfl, hb⟩
        replace HH := Lib.hid (HH.out.later hb)
        clear hb
        go_wp2_with fail
        go_ret
        exact ⟨rfl, below_step' HB.out HH.out.below HB.out.size⟩
      · obtain ⟨y, hy⟩ : ∃ y, C.getD (N + j) 0 = y := ⟨_, rfl⟩
        have HVY : Hid (k.val = y) := hval.trans hy
        have HPV : Hid (C[N + j]? = some y) := by
          have h1 := getD_at (C := C) (i := N + j) (by have := HCL.out; omega)
          show _ = _
          rw [h1, hy]
        have HPP := Lib.hid hph
        have HTA := Lib.hid hta
        obtain ⟨tr, htr⟩ : ∃ tr, k.tries = tr := ⟨_, rfl⟩
        have HTR := Lib.hid htr
        rw [htr] at ht0 ht7
        have HT7 : Hid (tr ≤ 7) := ht7
        have HJ9 : Hid ((0 : Int) ≤ (j : Int) ∧ (j : Int) ≤ (N : Int)) := by show _ ∧ _; omega
        have hlp : 0 < ls := by have := HSl.out; omega
        have hlz : ¬ (ls : Int) = 0 := by omega
        have hlz' : (0 : Int) < (ls : Int) := by omega
        obtain ⟨v2, hh⟩ := HH.out.rest
        obtain ⟨ga, ao, rfl, hsub, hc0, hci⟩ := HSub.out.cells (Hold.has hh 1 _ rfl) (by have := HSl.out; omega)
        have hc1 := hci (ls - 1) (by have := HSl.out; omega)
        have HS1 := Lib.hid hS1
        have HS2 := Lib.hid hS2
        clear hh hsub hci hph hta hval hy hS0 hS1 hS2 htr ht0 ht7 HSub hp hnb
        obtain ⟨x0, hx0⟩ : ∃ x0, S.getD 0 0 = x0 := ⟨_, rfl⟩
        rw [hx0] at hc0
        have HX0 := Lib.hid hx0
        clear hx0
        have HB0 : Hid (AtC wr cb t s 0 0) := HA.out.later HH.out.below Hs.out
        have HC0 : Hid (wr.cell? ⟨ga, ao, none⟩ = some (i64 x0)) := hc0
        have HC1 : Hid (wr.cell? ⟨ga, ao + (ls - 1), none⟩ = some (i64 (S.getD (ls - 1) 0 : Nat))) := hc1
        clear hc0 hc1
        go_wp2_with fail
        refine (HH.out.phase 1 HPP.out).mono ?_
        rintro r wr2 ⟨rfl, hb⟩
        replace HH := Lib.hid (HH.out.later hb)
        have hc0 := (below_rule hb _ (by rw [HC0.out]; rfl)).trans HC0.out
        have hc1 := (below_rule hb _ (by rw [HC1.out]; rfl)).trans HC1.out
        clear hb HC0 HC1
        cases a3
        · have he0 : ee = 0 := Hee.out.symm
          have hxj : x0 = j := HX0.out.symm.trans (HS1.out he0)
          rw [hxj] at hc0
          clear he0 hxj hc1
          go_wp2_with fail
          refine wp_region_seqS ((fun w' => AtC w' cb t s 0 0)) ((0, true) :: (1, false) :: (2, true) :: (3, true) :: (4, true) :: (6, true) :: (7, true) :: (8, true) :: (5, false) :: (9, false) :: (10, false) :: (11, true) :: (12, true) :: (13, true) :: (14, true) :: (15, false) :: (16, true) :: (17, true) :: (18, true) :: []) (by kernel_rfl) (by kernel_rfl) (by kernel_rfl) (by decide) (fun _ _ _ _ _ h => h) ((HA.out.later HH.out.drew.below Hs.out)) ?_
          replace HH := Lib.hid HH.out.drew
          repeat (first | (refine seq_take (v := ?_) rfl ?_ ?_ ?_; rotate_left 1; rfl; (focus (intro wS hSw; obtain ⟨k0, k1, k2, k3⟩ := hSw; go_simp; first | done | with_reducible rfl)); (try simp only [Act.put, List.setIfInBounds_toArray, List.set_cons_zero, List.set_cons_succ])) | (refine seq_skip rfl ?_ ?_; rfl; (try simp only [Act.put, List.setIfInBounds_toArray, List.set_cons_zero, List.set_cons_succ])))
          refine seq_run rfl (fun K hK => ?_)
          go_simp
          go_at_call 30
          refine (HH.out.phase 1 HPP.out).mono ?_
          rintro r wr7 ⟨rfl, hb⟩
          (try go_wp2_with fail)
          replace HH := Lib.hid (HH.out.later hb)
          clear hb
          refine hK.out _ _ ((HA.out.later HH.out.below Hs.out)) (fun _ => ?_)
          (try simp only [Act.put, List.setIfInBounds_toArray, List.set_cons_zero, List.set_cons_succ])
          clear hK K
          repeat (first | (refine seq_take (v := ?_) rfl ?_ ?_ ?_; rotate_left 1; rfl; (focus (intro wS hSw; obtain ⟨k0, k1, k2, k3⟩ := hSw; go_simp; first | done | with_reducible rfl)); (try simp only [Act.put, List.setIfInBounds_toArray, List.set_cons_zero, List.set_cons_succ])) | (refine seq_skip rfl ?_ ?_; rfl; (try simp only [Act.put, List.setIfInBounds_toArray, List.set_cons_zero, List.set_cons_succ])))
          refine seq_run rfl (fun K hK => ?_)
          go_simp
          go_at_call 28
          refine (HH.out.value y HVY.out (fun _ => HTA.out)).mono ?_
          rintro r wr7 ⟨rfl, hb⟩
          (try go_wp2_with fail)
          replace HH := Lib.hid (HH.out.later hb)
          clear hb
          refine hK.out _ _ ((HA.out.later HH.out.below Hs.out)) (fun _ => ?_)
          (try simp only [Act.put, List.setIfInBounds_toArray, List.set_cons_zero, List.set_cons_succ])
          clear hK K
          repeat (first | (refine seq_take (v := ?_) rfl ?_ ?_ ?_; rotate_left 1; rfl; (focus (intro wS hSw; obtain ⟨k0, k1, k2, k3⟩ := hSw; go_simp; first | done | with_reducible rfl)); (try simp only [Act.put, List.setIfInBounds_toArray, List.set_cons_zero, List.set_cons_succ])) | (refine seq_skip rfl ?_ ?_; rfl; (try simp only [Act.put, List.setIfInBounds_toArray, List.set_cons_zero, List.set_cons_succ])))
          refine seq_run rfl (fun K hK => ?_)
          go_simp
          go_at_call 18
          refine (gvalue_at t s 0 0 N j (N + j) _ hlay HJ9.out.1 HJ9.out.2 (by omega)).mono ?_
          rintro r wr7 ⟨rfl, hb⟩
          (try go_wp2_with fail)
          replace HH := Lib.hid (HH.out.later hb)
          clear hb
          refine hK.out _ _ ((HA.out.later HH.out.below Hs.out)) (fun _ => ?_)
          (try simp only [Act.put, List.setIfInBounds_toArray, List.set_cons_zero, List.set_cons_succ])
          clear hK K
          repeat (first | (refine seq_take (v := ?_) rfl ?_ ?_ ?_; rotate_left 1; rfl; (focus (intro wS hSw; obtain ⟨k0, k1, k2, k3⟩ := hSw; go_simp; first | done | with_reducible rfl)); (try simp only [Act.put, List.setIfInBounds_toArray, List.set_cons_zero, List.set_cons_succ])) | (refine seq_skip rfl ?_ ?_; rfl; (try simp only [Act.put, List.setIfInBounds_toArray, List.set_cons_zero, List.set_cons_succ])))
          refine seq_run rfl (fun K hK => ?_)
          go_simp
          go_at_call 33
          obtain ⟨v3, hm3⟩ := HH.out.mem
          refine (quiet_below (peek_in W.heap.size _ p c _ _ _ (N + j) y hm3 HPV.out)).mono ?_
          rintro r w13 ⟨rfl, hb⟩
          (try go_wp2_with fail)
          replace HH := Lib.hid (HH.out.later hb)
          clear hb hm3
          refine hK.out _ _ ((HA.out.later HH.out.below Hs.out)) (fun _ => ?_)
          (try simp only [Act.put, List.setIfInBounds_toArray, List.set_cons_zero, List.set_cons_succ])
          clear hK K
          have ht7 := HT7.out
          repeat (first | (refine seq_take (v := ?_) rfl ?_ ?_ ?_; rotate_left 1; rfl; (focus (intro wS hSw; obtain ⟨k0, k1, k2, k3⟩ := hSw; go_simp; first | done | with_reducible rfl)); (try simp only [Act.put, List.setIfInBounds_toArray, List.set_cons_zero, List.set_cons_succ])) | (refine seq_skip rfl ?_ ?_; rfl; (try simp only [Act.put, List.setIfInBounds_toArray, List.set_cons_zero, List.set_cons_succ])))
          refine seq_run rfl (fun K hK => ?_)
          go_simp
          go_at_call 27
          refine (HH.out.tries tr HTR.out).mono ?_
          rintro r wr7 ⟨rfl, hb⟩
          (try go_wp2_with fail)
          replace HH := Lib.hid (HH.out.later hb)
          clear hb
          refine hK.out _ _ ((HA.out.later HH.out.below Hs.out)) (fun _ => ?_)
          (try simp only [Act.put, List.setIfInBounds_toArray, List.set_cons_zero, List.set_cons_succ])
          clear hK K
          repeat (first | (refine seq_take (v := ?_) rfl ?_ ?_ ?_; rotate_left 1; rfl; (focus (intro wS hSw; obtain ⟨k0, k1, k2, k3⟩ := hSw; go_simp; first | done | with_reducible rfl)); (try simp only [Act.put, List.setIfInBounds_toArray, List.set_cons_zero, List.set_cons_succ])) | (refine seq_skip rfl ?_ ?_; rfl; (try simp only [Act.put, List.setIfInBounds_toArray, List.set_cons_zero, List.set_cons_succ])))
          refine seq_done ?_
          go_wp2_with fail
          go_ret
          exact ⟨rfl, below_step' HB.out HH.out.below HB.out.size⟩
        · have he1 : ¬ ee = 0 := by have : (1 : Int) = ee := Hee.out; omega
          have hxj := HS2.out he1
          rw [HSl.out] at hxj
          rw [hxj] at hc1
          have hix : wrap64 ((ls : Int) - 1) = ((ls - 1 : Nat) : Int) := by unfold wrap64; omega
          have hlt : ((ls - 1 : Nat) : Int) < (ls : Int) := by omega
          clear he1 hxj
          go_wp2_with fail
          refine wp_region_seqS ((fun w' => AtC w' cb t s 0 0)) ((0, true) :: (1, false) :: (2, true) :: (3, true) :: (4, true) :: (6, true) :: (7, true) :: (8, true) :: (5, false) :: (9, false) :: (10, false) :: (11, true) :: (12, true) :: (13, true) :: (14, true) :: (15, false) :: (16, true) :: (17, true) :: (18, true) :: []) (by kernel_rfl) (by kernel_rfl) (by kernel_rfl) (by decide) (fun _ _ _ _ _ h => h) ((HA.out.later HH.out.drew.below Hs.out)) ?_
          replace HH := Lib.hid HH.out.drew
          repeat (first | (refine seq_take (v := ?_) rfl ?_ ?_ ?_; rotate_left 1; rfl; (focus (intro wS hSw; obtain ⟨k0, k1, k2, k3⟩ := hSw; go_simp; first | done | with_reducible rfl)); (try simp only [Act.put, List.setIfInBounds_toArray, List.set_cons_zero, List.set_cons_succ])) | (refine seq_skip rfl ?_ ?_; rfl; (try simp only [Act.put, List.setIfInBounds_toArray, List.set_cons_zero, List.set_cons_succ])))
          refine seq_run rfl (fun K hK => ?_)
          go_simp
          go_at_call 30
          refine (HH.out.phase 1 HPP.out).mono ?_
          rintro r wr7 ⟨rfl, hb⟩
          (try go_wp2_with fail)
          replace HH := Lib.hid (HH.out.later hb)
          clear hb
          refine hK.out _ _ ((HA.out.later HH.out.below Hs.out)) (fun _ => ?_)
          (try simp only [Act.put, List.setIfInBounds_toArray, List.set_cons_zero, List.set_cons_succ])
          clear hK K
          repeat (first | (refine seq_take (v := ?_) rfl ?_ ?_ ?_; rotate_left 1; rfl; (focus (intro wS hSw; obtain ⟨k0, k1, k2, k3⟩ := hSw; go_simp; first | done | with_reducible rfl)); (try simp only [Act.put, List.setIfInBounds_toArray, List.set_cons_zero, List.set_cons_succ])) | (refine seq_skip rfl ?_ ?_; rfl; (try simp only [Act.put, List.setIfInBounds_toArray, List.set_cons_zero, List.set_cons_succ])))
          refine seq_run rfl (fun K hK => ?_)
          go_simp
          go_at_call 28
          refine (HH.out.value y HVY.out (fun _ => HTA.out)).mono ?_
          rintro r wr7 ⟨rfl, hb⟩
          (try go_wp2_with fail)
          replace HH := Lib.hid (HH.out.later hb)
          clear hb
          refine hK.out _ _ ((HA.out.later HH.out.below Hs.out)) (fun _ => ?_)
          (try simp only [Act.put, List.setIfInBounds_toArray, List.set_cons_zero, List.set_cons_succ])
          clear hK K
          repeat (first | (refine seq_take (v := ?_) rfl ?_ ?_ ?_; rotate_left 1; rfl; (focus (intro wS hSw; obtain ⟨k0, k1, k2, k3⟩ := hSw; go_simp; first | done | with_reducible rfl)); (try simp only [Act.put, List.setIfInBounds_toArray, List.set_cons_zero, List.set_cons_succ])) | (refine seq_skip rfl ?_ ?_; rfl; (try simp only [Act.put, List.setIfInBounds_toArray, List.set_cons_zero, List.set_cons_succ])))
          refine seq_run rfl (fun K hK => ?_)
          go_simp
          go_at_call 18
          refine (gvalue_at t s 0 0 N j (N + j) _ hlay HJ9.out.1 HJ9.out.2 (by omega)).mono ?_
          rintro r wr7 ⟨rfl, hb⟩
          (try go_wp2_with fail)
          replace HH := Lib.hid (HH.out.later hb)
          clear hb
          refine hK.out _ _ ((HA.out.later HH.out.below Hs.out)) (fun _ => ?_)
          (try simp only [Act.put, List.setIfInBounds_toArray, List.set_cons_zero, List.set_cons_succ])
          clear hK K
          repeat (first | (refine seq_take (v := ?_) rfl ?_ ?_ ?_; rotate_left 1; rfl; (focus (intro wS hSw; obtain ⟨k0, k1, k2, k3⟩ := hSw; go_simp; first | done | with_reducible rfl)); (try simp only [Act.put, List.setIfInBounds_toArray, List.set_cons_zero, List.set_cons_succ])) | (refine seq_skip rfl ?_ ?_; rfl; (try simp only [Act.put, List.setIfInBounds_toArray, List.set_cons_zero, List.set_cons_succ])))
          refine seq_run rfl (fun K hK => ?_)
          go_simp
          go_at_call 33
          obtain ⟨v3, hm3⟩ := HH.out.mem
          refine (quiet_below (peek_in W.heap.size _ p c _ _ _ (N + j) y hm3 HPV.out)).mono ?_
          rintro r w13 ⟨rfl, hb⟩
          (try go_wp2_with fail)
          replace HH := Lib.hid (HH.out.later hb)
          clear hb hm3
          refine hK.out _ _ ((HA.out.later HH.out.below Hs.out)) (fun _ => ?_)
          (try simp only [Act.put, List.setIfInBounds_toArray, List.set_cons_zero, List.set_cons_succ])
          clear hK K
          have ht7 := HT7.out
          repeat (first | (refine seq_take (v := ?_) rfl ?_ ?_ ?_; rotate_left 1; rfl; (focus (intro wS hSw; obtain ⟨k0, k1, k2, k3⟩ := hSw; go_simp; first | done | with_reducible rfl)); (try simp only [Act.put, List.setIfInBounds_toArray, List.set_cons_zero, List.set_cons_succ])) | (refine seq_skip rfl ?_ ?_; rfl; (try simp only [Act.put, List.setIfInBounds_toArray, List.set_cons_zero, List.set_cons_succ])))
          refine seq_run rfl (fun K hK => ?_)
          go_simp
          go_at_call 27
          refine (HH.out.tries tr HTR.out).mono ?_
          rintro r wr7 ⟨rfl, hb⟩
          (try go_wp2_with fail)
          replace HH := Lib.hid (HH.out.later hb)
          clear hb
          refine hK.out _ _ ((HA.out.later HH.out.below Hs.out)) (fun _ => ?_)
          (try simp only [Act.put, List.setIfInBounds_toArray, List.set_cons_zero, List.set_cons_succ])
          clear hK K
          repeat (first | (refine seq_take (v := ?_) rfl ?_ ?_ ?_; rotate_left 1; rfl; (focus (intro wS hSw; obtain ⟨k0, k1, k2, k3⟩ := hSw; go_simp; first | done | with_reducible rfl)); (try simp only [Act.put, List.setIfInBounds_toArray, List.set_cons_zero, List.set_cons_succ])) | (refine seq_skip rfl ?_ ?_; rfl; (try simp only [Act.put, List.setIfInBounds_toArray, List.set_cons_zero, List.set_cons_succ])))
          refine seq_done ?_
          go_wp2_with fail
          go_ret
          exact ⟨rfl, below_step' HB.out HH.out.below HB.out.size⟩

end Go.Proofs.Yticphioeipbnmaa
