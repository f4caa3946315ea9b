/-
  ClaimMost answers true for all numbers, and leaves all memory that was there as it was. No condition.
-/
import Derived.Test.YtgpdoihgnpkanaaClaimPure
namespace Go.Proofs.Ytgpdoihgnpkanaa
open Go.RowKit
set_option linter.unusedVariables false

theorem lay44c {t s : Int} (t1 : 1 ≤ t) (t2 : t ≤ 4) (s1 : 1 ≤ s) (s2 : s ≤ 4) : ∃ N : Nat, t * s = (N : Int) ∧ Lay t s N ∧ 1 ≤ N ∧ N ≤ 16 := by
  have h := Lay.mk' t1 (by omega : t ≤ 64) s1 (by omega : s ≤ 64)
  have h2 := Int.mul_le_mul t2 s2 (by omega) (by omega)
  have hn := h.n1
  refine ⟨(t * s).toNat, by omega, ?_, by omega, by omega⟩
  rw [Int.toNat_of_nonneg (by omega)]
  exact h
theorem set_getDc (X : List Int) (j i : Nat) (x : Int) (hj : j < X.length) : (X.set j x).getD i 0 = if j = i then x else X.getD i 0 := by
  rw [getD_set']
  by_cases h : j = i
  · subst h
    rw [if_pos ⟨rfl, hj⟩, if_pos rfl]
  · rw [if_neg (fun e => h e.1), if_neg h]
theorem chazard_nat (t s : Int) (N : Nat) (i : Int) (j : Nat) (w : World) (h : Lay t s N) (i0 : 0 ≤ i) (i1 : i ≤ t) (hj : 2 * (N : Int) + i = (j : Int)) :
    Calls Try.prog 31 #[cf t s 0 0, i64 i] w fun r w' => r = .returned (i64 j) ∧ Below w.heap.size w w' := by
  rw [← hj]
  exact chazard_any t s 0 0 N i w h i0 i1

/-- Words that are gone; the last thread looks at the place at hand: the claim goes on, step by step. -/
structure Mst (k : Cl) (C : List Int) (n m : Int) (hz : Nat) (i : Int) : Prop where
  ok : k.Ok n m hz C
  w : ∀ j : Nat, (j : Int) < n → C.getD j 0 = 10
  z : ∀ h : Nat, (h : Int) < k.t - 1 → C.getD (hz + h) 0 = 0
  pr : (k.ph = 0 ∧ i = (k.slot - m) * (k.t + 1) + k.steps) ∨ (k.ph = 2 ∧ i = k.s * (k.t + 1))

theorem Mst.step {k : Cl} {C : List Int} {n m i : Int} {hz : Nat} (h : Mst k C n m hz i) (hp : k.ph = 0) (hl : C.getD (hz + (k.t - 1).toNat) 0 = k.slot + 1) : Mst (k.step m hz C) C n m hz (i + 1) := by
  obtain ⟨hok, hw, hz0, hpr⟩ := h
  obtain ⟨l, h2, h3, w0, w1, hm, m0, m1, s0, s1, g0, g1⟩ := id hok
  have ht1 := l.t1
  have hi : i = (k.slot - m) * (k.t + 1) + k.steps := by
    rcases hpr with h | h
    · exact h.2
    · omega
  unfold Cl.step
  rw [if_pos hp]
  by_cases hs : k.steps = 0
  · rw [if_pos hs]
    have hc : k.cell hz = k.slot.toNat := if_pos hs
    rw [hc, hw k.slot.toNat (by omega)]
    unfold Cl.look
    rw [if_neg (by decide), if_neg (by decide), if_pos (by decide)]
    exact ⟨⟨l, h2, h3, w0, w1, hm, m0, m1, s0, s1, by show (0 : Int) ≤ 1; decide, ht1⟩, hw, hz0, .inl ⟨hp, by show i + 1 = (k.slot - m) * (k.t + 1) + 1; omega⟩⟩
  · rw [if_neg hs]
    have hc : k.cell hz = hz + (k.steps - 1).toNat := if_neg hs
    rw [hc]
    unfold Cl.guard
    by_cases hg : k.steps = k.t
    · rw [show (k.steps - 1).toNat = (k.t - 1).toNat by rw [hg], hl, if_pos rfl]
      unfold Cl.pass
      by_cases he : k.slot = m + k.s - 1
      · rw [if_pos he]
        refine ⟨⟨l, h2, h3, w0, w1, hm, m0, m1, s0, s1, g0, g1⟩, hw, hz0, .inr ⟨rfl, ?_⟩⟩
        show i + 1 = k.s * (k.t + 1)
        rw [hi, hg, show k.slot - m = k.s - 1 by omega, Int.sub_mul, Int.one_mul]
        omega
      · rw [if_neg he]
        refine ⟨⟨l, h2, h3, w0, w1, hm, m0, m1, by show m ≤ k.slot + 1; omega, by show k.slot + 1 < m + k.s; omega, Int.le_refl _, by show 0 ≤ k.t; omega⟩, hw, hz0, .inl ⟨hp, ?_⟩⟩
        show i + 1 = (k.slot + 1 - m) * (k.t + 1) + 0
        rw [hi, hg, show k.slot + 1 - m = (k.slot - m) + 1 by omega, Int.add_mul, Int.one_mul]
        omega
    · rw [hz0 (k.steps - 1).toNat (by omega), if_neg (by omega), if_neg hg]
      exact ⟨⟨l, h2, h3, w0, w1, hm, m0, m1, s0, s1, by show 0 ≤ k.steps + 1; omega, by show k.steps + 1 ≤ k.t; omega⟩, hw, hz0, .inl ⟨hp, by show i + 1 = (k.slot - m) * (k.t + 1) + (k.steps + 1); omega⟩⟩
theorem Mst.hazard {k : Cl} {C : List Int} {n m i : Int} {hz : Nat} (h : Mst k C n m hz i) (x : Int) : Mst k (C.set (hz + (k.t - 1).toNat) x) n m hz i ∧ (C.set (hz + (k.t - 1).toNat) x).getD (hz + (k.t - 1).toNat) 0 = x := by
  obtain ⟨⟨l, h2, h3, w0, w1, hm, m0, m1, s0, s1, g0, g1⟩, hw, hz0, hpr⟩ := h
  have ht1 := l.t1
  have hlt : hz + (k.t - 1).toNat < C.length := by omega
  refine ⟨⟨⟨l, h2, by rw [List.length_set]; exact h3, w0, w1, hm, m0, m1, s0, s1, g0, g1⟩, fun j hj => ?_, fun e he => ?_, hpr⟩, by rw [set_getDc _ _ _ _ hlt, if_pos rfl]⟩
  · rw [set_getDc _ _ _ _ hlt, if_neg (by omega)]
    exact hw j hj
  · rw [set_getDc _ _ _ _ hlt, if_neg (by omega)]
    exact hz0 e he
theorem Mst.le {k : Cl} {C : List Int} {n m i : Int} {hz : Nat} (h : Mst k C n m hz i) (t4 : k.t ≤ 4) (s4 : k.s ≤ 4) : i ≤ 20 := by
  have ht1 := h.ok.lay.t1
  have hs1 := h.ok.lay.s1
  have h1 := h.ok.s1
  have h2 := h.ok.g1
  have h5 := h.ok.s0
  rcases h.pr with ⟨_, hi⟩ | ⟨_, hi⟩
  · have h3 := Int.mul_le_mul (show k.slot - m ≤ 3 by omega) (show k.t + 1 ≤ 5 by omega) (by omega) (by decide)
    omega
  · have h3 := Int.mul_le_mul s4 (show k.t + 1 ≤ 5 by omega) (by omega) (by decide)
    omega

set_option maxRecDepth 100000 in
set_option maxHeartbeats 4000000 in
theorem walk_ClaimMost (a0 : Int) (a1 : Int) (a2 : Int) (w : World) (w0 : (Lit.int .i64 a0).wf = true) (w1 : (Lit.int .i64 a1).wf = true) (w2 : (Lit.int .i64 a2).wf = true) :
    Calls Try.prog 4 #[.int .i64 a0, .int .i64 a1, .int .i64 a2] w fun e w' => e = .returned (.bool true) ∧ Below w.heap.size w w' := by
  clear w0 w1 w2
  obtain ⟨u2, hu2, l2, g2⟩ : ∃ u, bits .and .i64 a2 65535 = u ∧ 0 ≤ u ∧ u ≤ 65535 := ⟨_, and_ffff a2, by omega, by omega⟩
  go_enter Try.func4, Try.ntmps4
  go_wp2_with fail
  refine (head6_any _).mono ?_
  rintro e w1 ⟨rfl, hb1⟩
  go_wp2_with fail
  refine (conf2_any _ _ _).mono ?_
  rintro e w2 ⟨t, s, rfl, t1, t2, s1, s2, hb2⟩
  have ht0 : (t == 0) = false := by simp; omega
  have hB2 := Lib.hid (below_step hb1 hb2)
  clear hb1 hb2
  obtain ⟨N, hNe, hlay, hN1, hN2⟩ := lay44c t1 t2 s1 s2
  have hn0 : ¬ N = 0 := by omega
  clear hNe
  go_wp2_with fail
  have hw0 := Int.emod_nonneg u2 (show t ≠ 0 by omega)
  have hw1 := Int.emod_lt_of_pos u2 (show 0 < t by omega)
  generalize u2 % t = who at hw0 hw1 ⊢
  clear hu2 l2 g2
  have hA := AtC.made w2 t s 0 0
  have hB3 := below_new (Below.refl w2.heap.size w2) (.cells #[.int .i64 t, .int .i64 s, .int .i64 0, .int .i64 0] 27)
  have hs3 : w2.heap.size < (w2.alloc (.cells #[.int .i64 t, .int .i64 s, .int .i64 0, .int .i64 0] 27)).heap.size := by simp
  have HA := Lib.hid hA
  have HB := Lib.hid (below_step hB2.out hB3)
  have Hs := Lib.hid hs3
  clear hA hB3 hs3 hB2
  generalize w2.alloc (.cells #[.int .i64 t, .int .i64 s, .int .i64 0, .int .i64 0] 27) = W at HA HB Hs ⊢
  generalize w2.heap.size = cb at HA Hs ⊢
  clear w2 w1
  refine (ccells_any t s 0 0 N _ hlay).mono ?_
  rintro r w2 ⟨rfl, hb2⟩
  obtain ⟨M, hM⟩ : ∃ M : Nat, 2 * (N : Int) + 2 * t = (M : Int) := ⟨(2 * (N : Int) + 2 * t).toNat, by omega⟩
  have HM := Lib.hid hM
  rw [hM]
  clear hM
  have hb12 := hb2
  clear hb2
  go_wp2_with fail
  refine (new_nat W.heap.size M M _ hb12.size (by have := HM.out; omega) (.inl rfl)).mono ?_
  rintro r w3 ⟨p, c, rfl, hM3, hb3, hp, hc⟩
  have HH := Lib.hid (Hold.cells hb12 hM3 hb3 hp hc)
  have HL0 : Hid ((List.replicate M (0 : Int)).length = M) := List.length_replicate
  clear hM3 hb3 hp hc hb12
  obtain ⟨q0, q1, q2, q3⟩ := HA.out.later HH.out.below Hs.out
  obtain ⟨m, hm, hmN⟩ := who_s hlay hw0 hw1
  go_wp2_with fail
  refine (clnew_any _ N m t s 0 0 who hlay hw0 hw1 hm (by omega) hmN).mono ?_
  rintro r w4 ⟨b, rfl, hS4, hb4, hbb⟩
  have HH1 := Lib.hid (ClHold.begun HH.out hb4 hS4 hbb)
  clear hS4 hb4 hbb q0 q1 q2 q3 HH
  have HM10 := Lib.hid hm
  clear hm
  go_wp2_with fail
  have HZ0 : Hid (∀ e : Nat, 0 ≤ e → (List.replicate M (0 : Int)).getD e 0 = 0) := fun e _ => zeros M e
  have HW0 : Hid (∀ e : Nat, e < 0 → (List.replicate M (0 : Int)).getD e 0 = 10) := fun e he => by omega
  go_loopw [10] (fun i wr => ∃ (e : Nat) (v : Value) (C : List Int) (L : List Ev), e ≤ N ∧ i = .int .i64 e ∧ Hid (ClHold W wr p c v C L b (cl0 t s 0 0 who m) []) ∧ Hid (C.length = M) ∧ Hid (L.length ≤ e) ∧ Hid (∀ q : Nat, e ≤ q → C.getD q 0 = 0) ∧ Hid (∀ q : Nat, q < e → C.getD q 0 = 10)) (fun i _ => N - (intOf i).toNat)
  case atStart => exact ⟨0, _, _, _, by omega, rfl, HH1, HL0, Nat.zero_le _, HZ0, HW0⟩
  case round =>
    clear HH1 HL0 HZ0 HW0
    obtain ⟨e, v, C, L, he, rfl, HH, HC, HL, HZ, HW⟩ := hrel
    obtain ⟨q0, q1, q2, q3⟩ := HA.out.later HH.out.below Hs.out
    go_wp2_with fail
    refine (call_any t s 0 0 N _ hlay).mono ?_
    rintro r w5 ⟨rfl, hb5⟩
    replace HH := Lib.hid (HH.out.later hb5)
    clear hb5 q0 q1 q2 q3
    obtain ⟨q0, q1, q2, q3⟩ := HA.out.later HH.out.below Hs.out
    rcases Nat.lt_or_ge e N with heN | heN
    · have heN' : (e : Int) < (N : Int) := by omega
      have HJ : Hid (e < C.length) := by have := HC.out; have := HM.out; show _ < _; omega
      go_wp2_with fail
      refine (cword_any _ _ _ _ _ _).mono ?_
      rintro r w6 ⟨rfl, hb6⟩
      replace HH := Lib.hid (HH.out.later hb6)
      clear hb6 q0 q1 q2 q3
      go_wp2_with fail
      refine (pack_right 2 0 1 0 0 _ (by decide)).mono ?_
      rintro r w7 ⟨rfl, hb7⟩
      replace HH := Lib.hid (HH.out.later hb7)
      clear hb7
      go_wp2_with fail
      refine (store_in W.heap.size _ p c _ _ _ (-1) e _ 10 HH.out.mem (getD_at HJ.out) HH.out.size (by have := HL.out; omega) (by decide) (by decide)).mono ?_
      rintro r w8 ⟨rfl, v8, hT8⟩
      have HH8 := Lib.hid (HH.out.store hT8)
      clear hT8 HH
      go_wp2_with fail
      go_roundw
      case rel => exact ⟨e + 1, v8, _, _, by omega, by go_num, HH8, by show _ = _; rw [List.length_set]; exact HC.out, by show _ ≤ _; rw [List.length_append]; have := HL.out; simp; omega, fun q hq => by rw [set_getDc _ _ _ _ HJ.out, if_neg (by omega)]; exact HZ.out q (by omega), fun q hq => by
        rw [set_getDc _ _ _ _ HJ.out]
        split
        · rfl
        · exact HW.out q (by omega)⟩
      case measure => simp [intOf]; omega
    · obtain rfl : N = e := by omega
      have heN' : ¬ (N : Int) < (N : Int) := by omega
      obtain ⟨hz, hhz⟩ : ∃ hz : Nat, (hz : Int) = 2 * (N : Int) := ⟨2 * N, by omega⟩
      obtain ⟨tl, htl⟩ : ∃ tl : Nat, (tl : Int) = t - 1 := ⟨(t - 1).toNat, by omega⟩
      have hMst : Mst (cl0 t s 0 0 who m) C N m hz ((0 : Nat) : Int) := ⟨⟨hlay, hhz, by have := HC.out; have := HM.out; show (C.length : Int) = 2 * N + 2 * t; omega, hw0, hw1, HM10.out, by omega, hmN, Int.le_refl _, by show (m : Int) < m + s; omega, Int.le_refl _, by show 0 ≤ t; omega⟩, fun j hj => HW.out j (by omega), fun q hq => HZ.out _ (by omega), .inl ⟨rfl, by show ((0 : Nat) : Int) = ((m : Int) - m) * (t + 1) + 0; rw [Int.sub_self, Int.zero_mul]; rfl⟩⟩
      have HMS := Lib.hid hMst
      have HHZ := Lib.hid hhz
      have HTL := Lib.hid htl
      have HSM : Hid (Cl.Same (cl0 t s 0 0 who m) (cl0 t s 0 0 who m)) := ⟨rfl, rfl, rfl⟩
      have HLL : Hid (L.length ≤ N + 2 * 0) := HL.out
      clear hMst hhz HL HZ HW htl q0 q1 q2 q3
      obtain ⟨wo, rfl⟩ : ∃ wo : World, wo = wr := ⟨_, rfl⟩
      go_wp2_with fail
      go_loopw [11] (fun i wr => ∃ (q : Nat) (v : Value) (C : List Int) (L : List Ev) (k : Cl), q ≤ 20 ∧ i = .int .i64 q ∧ Hid (ClHold W wr p c v C L b k []) ∧ Hid (Mst k C N m hz (q : Int)) ∧ Hid (Cl.Same (cl0 t s 0 0 who m) k) ∧ Hid (L.length ≤ N + 2 * q)) (fun i _ => 20 - (intOf i).toNat)
      case atStart => exact ⟨0, _, _, _, _, by omega, rfl, HH, HMS, HSM, HLL⟩
      case round =>
        clear HH HMS HSM HLL HC
        obtain ⟨q, v, C, L, k, hq, rfl, HH, HMS, HSM, HL⟩ := hrel
        have hkt : k.t = t := HSM.out.1
        have hks : k.s = s := HSM.out.2.1
        obtain ⟨q0, q1, q2, q3⟩ := HA.out.later HH.out.below Hs.out
        rcases HMS.out.pr with ⟨hp, hi⟩ | ⟨hp, hi⟩
        · have HP := Lib.hid hp
          have hk1 := HMS.out.ok.s0
          have hk2 := HMS.out.ok.s1
          have hkl : (C.length : Int) = 2 * N + 2 * t := by rw [← hkt]; exact HMS.out.ok.len
          have HJ : Hid (hz + tl < C.length) := by have := HHZ.out; have := HTL.out; show _ < _; omega
          have hw64 : IntKind.u64.wrap (k.slot + 1) = k.slot + 1 := by rw [IntKind.wrap_u64]; omega
          have hws : wrap64 (k.slot + 1) = k.slot + 1 := by unfold wrap64; omega
          have HKS : Hid (0 ≤ k.slot + 1 ∧ k.slot + 1 ≤ 18446744073709551615) := ⟨by omega, by omega⟩
          have HM2 := HMS.out.hazard (k.slot + 1)
          rw [hkt, show (t - 1).toNat = tl by have := HTL.out; omega] at HM2
          have HM3 := Lib.hid (HM2.1.step hp (by rw [hkt, show (t - 1).toNat = tl by have := HTL.out; omega]; exact HM2.2))
          have HOK := Lib.hid HM2.1.ok
          have hq20 : q < 20 := by
            have := HM3.out.le (by rw [(Cl.step_same k m hz _).1, hkt]; exact t2) (by rw [(Cl.step_same k m hz _).2.1, hks]; exact s2)
            omega
          have HSM2 : Hid (Cl.Same (cl0 t s 0 0 who m) (k.step m hz (C.set (hz + tl) (k.slot + 1)))) := ⟨(Cl.step_same k m hz _).1.trans HSM.out.1, (Cl.step_same k m hz _).2.1.trans HSM.out.2.1, (Cl.step_same k m hz _).2.2.trans HSM.out.2.2⟩
          clear hp hi HM2 hkt hks HMS
          obtain ⟨sl, hsl⟩ : ∃ sl, k.slot = sl := ⟨_, rfl⟩
          have HSL := Lib.hid hsl
          rw [hsl] at hw64 hws hk1 hk2
          clear hsl
          go_wp2_with fail
          refine (clphase_any _ b k HH.out.obj).mono ?_
          rintro r w' ⟨rfl, rfl⟩
          rw [HP.out]
          go_wp2_with fail
          refine (chazard_nat t s N _ (hz + tl) _ hlay (by omega) (by omega) (by have := HHZ.out; have := HTL.out; omega)).mono ?_
          rintro r w5 ⟨rfl, hb5⟩
          replace HH := Lib.hid (HH.out.later hb5)
          clear hb5 q0 q1 q2 q3
          go_wp2_with fail
          refine (clslot_any _ b k HH.out.obj).mono ?_
          rintro r w' ⟨rfl, rfl⟩
          rw [HSL.out]
          go_wp2_with fail
          rw [← HSL.out]
          refine (store_in W.heap.size _ p c _ _ _ (-1) (hz + tl) _ (k.slot + 1) HH.out.mem (getD_at HJ.out) HH.out.size (by have := HL.out; omega) HKS.out.1 HKS.out.2).mono ?_
          rintro r w7 ⟨rfl, v7, hT7⟩
          have HH7 := Lib.hid (HH.out.store hT7)
          clear hT7 HH
          go_wp2_with fail
          have HST := Lib.hid (HH7.out.call HOK.out (by rw [List.length_append]; have := HL.out; simp; omega))
          refine HST.out.mono ?_
          rintro r w8 ⟨rfl, v8, hH8⟩
          have HH8 := Lib.hid hH8
          clear hH8 HST HH7
          go_wp2_with fail
          go_roundw
          case rel => exact ⟨q + 1, v8, _, _, _, by omega, by go_num, HH8, HM3, HSM2, by show _ ≤ _; rw [List.length_append, List.length_append]; have := HL.out; have := Cl.ev_le k hz (C.set (hz + tl) (k.slot + 1)); simp; omega⟩
          case measure => simp [intOf]; omega
        · have HP := Lib.hid hp
          rw [hkt, hks] at hi
          have hmul : wrap64 (s * (t + 1)) = (q : Int) := by rw [← hi]; unfold wrap64; omega
          have HI := Lib.hid hi.symm
          have HQ0 : Hid ((q : Int) ≤ 10000) := by show _ ≤ _; omega
          clear hp hi hkt hks HMS HSM
          go_wp2_with fail
          refine (clphase_any _ b k HH.out.obj).mono ?_
          rintro r w' ⟨rfl, rfl⟩
          rw [HP.out]
          go_wp2_with fail
          refine (clphase_any _ b k HH.out.obj).mono ?_
          rintro r w' ⟨rfl, rfl⟩
          rw [HP.out]
          go_wp2_with fail
          refine (clmost_any _ t s 0 0 t1 (by omega) s1 (by omega) q HI.out (by omega) HQ0.out).mono ?_
          rintro r w5 ⟨rfl, hb5⟩
          have HH5 := Lib.hid (HH.out.later hb5)
          clear hb5 q0 q1 q2 q3
          obtain ⟨q0, q1, q2, q3⟩ := HA.out.later HH5.out.below Hs.out
          have hbf := Lib.hid (below_step' HB.out HH5.out.below HB.out.size)
          go_wp2
          go_ret
          exact ⟨rfl, hbf.out⟩

end Go.Proofs.Ytgpdoihgnpkanaa
