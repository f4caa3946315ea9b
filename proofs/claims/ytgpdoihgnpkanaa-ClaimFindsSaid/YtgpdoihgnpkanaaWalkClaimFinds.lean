/-
  ClaimFinds answers true for all numbers and lists, and leaves all memory that was there as it was. No condition.
-/
import Derived.Test.YtgpdoihgnpkanaaClaimMore
import Derived.Test.YtgpdoihgnpkanaaWalkClaimMost
import Derived.Test.YtgpdoihgnpkanaaMemSame
namespace Go.Proofs.Ytgpdoihgnpkanaa
open Go.RowKit
set_option linter.unusedVariables false

set_option maxHeartbeats 2000000 in
theorem guarded_any (base : Nat) (w : World) (p c : Nat) (v : Value) (C : List Int) (L : List Ev) (t s slot : Int) (N hz : Nat) (hlay : Lay t s N) (t2 : t ≤ 4) (hN2 : N ≤ 16) (hhz : (hz : Int) = 2 * N) (hC : (C.length : Int) = 2 * N + 2 * t) (s0 : 0 ≤ slot) (s1 : slot < N) (hM : IsMem base w p c v C L) :
    Calls Try.prog 21 #[cf t s 0 0, pt p, i64 slot] w fun r w' => ((r = .returned (.bool true) ∧ ∃ h : Nat, (h : Int) < t ∧ C.getD (hz + h) 0 = slot + 1) ∨ (r = .returned (.bool false) ∧ ∀ h : Nat, (h : Int) < t → C.getD (hz + h) 0 ≠ slot + 1)) ∧ Below w.heap.size w w' := by
  have t1 := hlay.t1
  have hA := AtC.made w t s 0 0
  have hB3 := below_new (Below.refl w.heap.size w) (.cells #[.int .i64 t, .int .i64 s, .int .i64 0, .int .i64 0] 27)
  have hs3 : w.heap.size < (w.alloc (.cells #[.int .i64 t, .int .i64 s, .int .i64 0, .int .i64 0] 27)).heap.size := by simp
  have HA := Lib.hid hA
  have HB := Lib.hid hB3
  have Hs := Lib.hid hs3
  have HM := Lib.hid hM
  have HC := Lib.hid hC
  have HHZ := Lib.hid hhz
  have hw1 : wrap64 (slot + 1) = slot + 1 := by unfold wrap64; omega
  have hw2 : IntKind.u64.wrap (slot + 1) = slot + 1 := by rw [IntKind.wrap_u64]; omega
  have HS0 : Hid (0 ≤ slot ∧ slot < N) := ⟨s0, s1⟩
  clear hA hB3 hs3 hM hC hhz
  go_enter Try.func21, Try.ntmps21
  go_wp2_with fail
  generalize w.alloc (.cells #[.int .i64 t, .int .i64 s, .int .i64 0, .int .i64 0] 27) = W at HA HB Hs ⊢
  generalize hcb : w.heap.size = cb at HA Hs ⊢
  have Hcb := Lib.hid hcb
  clear hcb
  have HBW : Hid (Below W.heap.size W W) := Below.refl _ _
  have HN0 : Hid (∀ h : Nat, h < 0 → C.getD (hz + h) 0 ≠ slot + 1) := fun h hh => by omega
  go_loopw [7] (fun i wr => ∃ (e : Nat), (e : Int) ≤ t ∧ i = .int .i64 e ∧ Hid (Below W.heap.size W wr) ∧ Hid (∀ h : Nat, h < e → C.getD (hz + h) 0 ≠ slot + 1)) (fun i _ => t.toNat - (intOf i).toNat)
  case atStart => exact ⟨0, by omega, rfl, HBW, HN0⟩
  case round =>
    clear HBW HN0
    obtain ⟨e, he, rfl, HBW, HNN⟩ := hrel
    obtain ⟨q0, q1, q2, q3⟩ := HA.out.later HBW.out Hs.out
    rcases Int.lt_or_le (e : Int) t with hlt | hge
    · obtain ⟨j, hj⟩ : ∃ j : Nat, hz + e = j := ⟨_, rfl⟩
      have HJE := Lib.hid hj
      have HPK : Hid (C[j]? = some (C.getD j 0)) := getD_at (by have := HC.out; have := HHZ.out; omega)
      clear hj
      go_wp2_with fail
      refine (chazard_nat t s N _ j _ hlay (by omega) (by omega) (by have := HHZ.out; have := HJE.out; omega)).mono ?_
      rintro r w5 ⟨rfl, hb5⟩
      have HB5 := Lib.hid (below_step HBW.out hb5)
      have HM5 := Lib.hid ((HM.out.later HB.out).later HB5.out)
      clear hb5 q0 q1 q2 q3
      go_wp2_with fail
      refine (peek_in base _ p c v C L j _ HM5.out HPK.out).mono ?_
      rintro r w' ⟨rfl, rfl⟩
      by_cases hx : C.getD j 0 = slot + 1
      · have qx : (slot + 1 == slot + 1) = true := by simp
        have HX : Hid (∃ h : Nat, (h : Int) < t ∧ C.getD (hz + h) 0 = slot + 1) := ⟨e, hlt, by rw [HJE.out]; exact hx⟩
        rw [hx]
        clear hx HPK
        go_wp2_with fail
        go_ret
        exact ⟨.inl ⟨rfl, HX.out⟩, below_step' HB.out HB5.out HB.out.size⟩
      · have qx : (C.getD j 0 == slot + 1) = false := by simp only [beq_eq_false_iff_ne]; exact hx
        have HN2 : Hid (∀ h : Nat, h < e + 1 → C.getD (hz + h) 0 ≠ slot + 1) := fun h hh => by
          rcases (by omega : h < e ∨ h = e) with h1 | rfl
          · exact HNN.out h h1
          · rw [HJE.out]
            exact hx
        clear hx HPK
        generalize C.getD j 0 = x at qx
        go_wp2_with fail
        go_roundw
        case rel => exact ⟨e + 1, by omega, by go_num, HB5, HN2⟩
        case measure => simp [intOf]; omega
    · have hge' : ¬ (e : Int) < t := by omega
      have HX : Hid (∀ h : Nat, (h : Int) < t → C.getD (hz + h) 0 ≠ slot + 1) := fun h hh => HNN.out h (by omega)
      go_wp2
      go_ret
      exact ⟨.inr ⟨rfl, HX.out⟩, below_step' HB.out HBW.out HB.out.size⟩

set_option maxRecDepth 100000 in
set_option maxHeartbeats 8000000 in
theorem walk_ClaimFinds (a0 : Int) (a1 : Int) (a2 : Int) (a3 : Option Addr) (len3 cap3 : Nat) (a4 : Option Addr) (len4 cap4 : Nat) (w : World) (w0 : (Lit.int .i64 a0).wf = true) (w1 : (Lit.int .i64 a1).wf = true) (w2 : (Lit.int .i64 a2).wf = true) (w3 : IsRows w [.inl .i64, .inl .i64, .inr true] a3 len3 cap3) (w4 : IsRows w [.inl .i64] a4 len4 cap4) :
    Calls Try.prog 3 #[.int .i64 a0, .int .i64 a1, .int .i64 a2, .slice a3 len3 cap3, .slice a4 len4 cap4] w fun e w' => e = .returned (.bool true) ∧ Below w.heap.size w w' := by
  clear w0 w1 w2
  by_cases hbig : 64 < len3
  · have hbig' : (64 : Int) < (len3 : Int) := by omega
    clear w3 w4
    go_enter Try.func3, Try.ntmps3
    go_wp2_with fail
    refine (head6_any _).mono ?_
    rintro e w1 ⟨rfl, hb1⟩
    go_wp2_with fail
    go_ret
    exact ⟨rfl, hb1⟩
  have p0 : decide ((64 : Int) < (len3 : Int)) = false := decide_eq_false (by omega)
  by_cases hbig2 : 64 < len4
  · have hbig' : decide ((64 : Int) < (len4 : Int)) = true := decide_eq_true (by omega)
    clear w3 w4
    go_enter Try.func3, Try.ntmps3
    go_wp2_with fail
    refine (head6_any _).mono ?_
    rintro e w1 ⟨rfl, hb1⟩
    go_wp2_with fail
    go_ret
    exact ⟨rfl, hb1⟩
  have p1 : decide ((64 : Int) < (len4 : Int)) = false := decide_eq_false (by omega)
  have W2 := Lib.hid w3
  have W3 := Lib.hid w4
  clear w3 w4
  obtain ⟨u2, hu2, l2, g2⟩ : ∃ u, bits .and .i64 a2 65535 = u ∧ 0 ≤ u ∧ u ≤ 65535 := ⟨_, and_ffff a2, by omega, by omega⟩
  go_enter Try.func3, Try.ntmps3
  go_wp2_with fail
  refine (head6_any _).mono ?_
  rintro e w1 ⟨rfl, hb1⟩
  go_wp2_with fail
  refine (conf2_any _ _ _).mono ?_
  rintro e w2 ⟨t, s, rfl, t1, t2, s1, s2, hb2⟩
  have ht0 : (t == 0) = false := by simp; omega
  have hB2 := Lib.hid (below_step hb1 hb2)
  clear hb1 hb2
  obtain ⟨N, hNe, hlay, hN1, hN2⟩ := lay44c t1 t2 s1 s2
  obtain ⟨Q, hQ, hQ20⟩ := most_le t1 t2 s1 s2
  have HQ := Lib.hid hQ
  have hn0 : ¬ N = 0 := by omega
  clear hNe hQ
  go_wp2_with fail
  have hw0 := Int.emod_nonneg u2 (show t ≠ 0 by omega)
  have hw1 := Int.emod_lt_of_pos u2 (show 0 < t by omega)
  generalize u2 % t = who at hw0 hw1 ⊢
  clear hu2 l2 g2
  have hA := AtC.made w2 t s 0 0
  have hB3 := below_new (Below.refl w2.heap.size w2) (.cells #[.int .i64 t, .int .i64 s, .int .i64 0, .int .i64 0] 27)
  have hs3 : w2.heap.size < (w2.alloc (.cells #[.int .i64 t, .int .i64 s, .int .i64 0, .int .i64 0] 27)).heap.size := by simp
  have HA := Lib.hid hA
  have HB := Lib.hid (below_step hB2.out hB3)
  have Hs := Lib.hid hs3
  clear hA hB3 hs3 hB2
  generalize w2.alloc (.cells #[.int .i64 t, .int .i64 s, .int .i64 0, .int .i64 0] 27) = W at HA HB Hs ⊢
  generalize w2.heap.size = cb at HA Hs ⊢
  clear w2 w1
  refine (cells_any W.heap.size t s N _ _ _ _ _ _ _ hlay t2 hN2 (Nat.le_refl _) (rows_later W2.out HB.out) (rows_later W3.out HB.out)).mono ?_
  rintro r w3 ⟨p, c, v, C, L, rfl, hM3, hlen, hL, hb3, hfr⟩
  have HH : Hid (Hold W w3 [tMem W.heap.size p c v C L]) := (Hold.nil (Below.refl _ _)).more hb3 (tMem_ok _ _ _ _ _ _) hM3 hfr
  have HC := Lib.hid hlen
  obtain ⟨hz, hhz⟩ : ∃ hz : Nat, (hz : Int) = 2 * (N : Int) := ⟨2 * N, by omega⟩
  have HHZ := Lib.hid hhz
  clear hM3 hlen hb3 hfr hhz
  obtain ⟨m, hm, hmN⟩ := who_s hlay hw0 hw1
  have HMQ := Lib.hid hm
  clear hm
  go_wp2_with fail
  refine (count_any W.heap.size _ p c v C L (HH.out.has 0 _ rfl)).mono ?_
  rintro r w' ⟨rfl, rfl⟩
  obtain ⟨LN, hLN⟩ : ∃ LN, L.length = LN := ⟨_, rfl⟩
  rw [hLN] at hL
  rw [hLN]
  have HLN := Lib.hid hLN
  clear hLN
  obtain ⟨q0, q1, q2, q3⟩ := HA.out.later HH.out.below Hs.out
  go_wp2_with fail
  refine (clnew_any _ N m t s 0 0 who hlay hw0 hw1 HMQ.out (by omega) hmN).mono ?_
  rintro r w4 ⟨b, rfl, hS4, hb4, hbb⟩
  have HH1 := Lib.hid (ClHold.begun HH.out hb4 hS4 hbb)
  have HF0 : Hid (Fd (cl0 t s 0 0 who m) C N m hz ((0 : Nat) : Int)) := Fd.start t s 0 0 who hlay HHZ.out HC.out hw0 hw1 HMQ.out (by omega) hmN
  have HE0 : Hid (Cl.Same (cl0 t s 0 0 who m) (cl0 t s 0 0 who m)) := ⟨rfl, rfl, rfl⟩
  have HL0 : Hid (∃ L1 : List Ev, L = L ++ L1 ∧ L1.length ≤ 0 ∧ (∀ ev ∈ L1, ev.op = 0 ∧ ev.who = who) ∧ (L1.length = 0 → (cl0 t s 0 0 who m).ph = 0)) := ⟨[], (List.append_nil _).symm, Nat.le_refl _, (fun ev h => by cases h), fun _ => rfl⟩
  obtain ⟨L0, hL0⟩ : ∃ L0, L = L0 := ⟨_, rfl⟩
  have HL00 : Hid (L0.length = LN) := by rw [← hL0]; exact HLN.out
  have HL1 : Hid (∃ L1 : List Ev, L = L0 ++ L1 ∧ L1.length ≤ 0 ∧ (∀ ev ∈ L1, ev.op = 0 ∧ ev.who = who) ∧ (L1.length = 0 → (cl0 t s 0 0 who m).ph = 0)) := by rw [← hL0]; exact HL0
  clear hS4 hb4 hbb q0 q1 q2 q3 HH HL0 hL0 HLN
  go_wp2_with fail
  go_loopw [15] (fun i wr => ∃ (e : Nat) (v : Value) (L : List Ev) (k : Cl), e ≤ Q ∧ i = .int .i64 e ∧ Hid (ClHold W wr p c v C L b k []) ∧ Hid (Fd k C N m hz (e : Int)) ∧ Hid (Cl.Same (cl0 t s 0 0 who m) k) ∧ Hid (∃ L1 : List Ev, L = L0 ++ L1 ∧ L1.length ≤ e ∧ (∀ ev ∈ L1, ev.op = 0 ∧ ev.who = who) ∧ (L1.length = 0 → k.ph = 0))) (fun i _ => Q - (intOf i).toNat)
  case atStart => exact ⟨0, _, _, _, by omega, rfl, HH1, HF0, HE0, HL1⟩
  case round =>
    clear HH1 HF0 HE0 HL1
    obtain ⟨e, v, L, k, he, rfl, HH, HF, HE, HL⟩ := hrel
    have HLL : Hid (L.length ≤ LN + e) := by
      obtain ⟨L1, h1, h2, _⟩ := HL.out
      show _ ≤ _
      rw [h1, List.length_append, HL00.out]
      omega
    obtain ⟨q0, q1, q2, q3⟩ := HA.out.later HH.out.below Hs.out
    go_wp2_with fail
    refine (clmost_any _ t s 0 0 t1 (by omega) s1 (by omega) Q HQ.out (by omega) (by omega)).mono ?_
    rintro r w5 ⟨rfl, hb5⟩
    replace HH := Lib.hid (HH.out.later hb5)
    clear hb5 q0 q1 q2 q3
    rcases Nat.lt_or_ge e Q with heQ | heQ
    · have heQ' : (e : Int) < (Q : Int) := by omega
      have HST := Lib.hid (HH.out.call HF.out.ok (by have := HLL.out; omega))
      have HF2 : Hid (Fd (k.step m hz C) C N m hz ((e + 1 : Nat) : Int)) := HF.out.step
      have HE2 : Hid (Cl.Same (cl0 t s 0 0 who m) (k.step m hz C)) := ⟨(Cl.step_same k m hz C).1.trans HE.out.1, (Cl.step_same k m hz C).2.1.trans HE.out.2.1, (Cl.step_same k m hz C).2.2.trans HE.out.2.2⟩
      have HL2 : Hid (∃ L1 : List Ev, L ++ k.ev hz C = L0 ++ L1 ∧ L1.length ≤ e + 1 ∧ (∀ ev ∈ L1, ev.op = 0 ∧ ev.who = who) ∧ (L1.length = 0 → (k.step m hz C).ph = 0)) := by
        obtain ⟨L1, h1, h2, h3, h4⟩ := HL.out
        refine ⟨L1 ++ k.ev hz C, by rw [h1, List.append_assoc], by rw [List.length_append]; have := Cl.ev_le k hz C; omega, (fun ev hev => ?_), fun hz0 => ?_⟩
        rotate_left 1
        · rw [List.length_append] at hz0
          have h5 := h4 (by omega)
          unfold Cl.ev at hz0
          rw [if_pos h5] at hz0
          simp at hz0
        rcases List.mem_append.1 hev with h | h
        · exact h3 ev h
        · unfold Cl.ev at h
          split at h
          · rw [List.mem_singleton] at h
            rw [h]
            exact ⟨rfl, HE.out.2.2⟩
          · cases h
      clear HF HE HL
      go_wp2_with fail
      refine HST.out.mono ?_
      rintro r w6 ⟨rfl, v6, hH6⟩
      have HH6 := Lib.hid hH6
      clear hH6
      go_wp2_with fail
      go_roundw
      case rel => exact ⟨e + 1, v6, _, _, by omega, by go_num, HH6, HF2, HE2, HL2⟩
      case measure => simp [intOf]; omega
    · obtain rfl : Q = e := by omega
      have hQQ : ¬ Q < Q := by omega
      have hph : k.ph ≠ 0 := HF.out.most (by rw [HE.out.1, HE.out.2.1]; exact HQ.out.symm)
      have HL9 : Hid (∃ L1 : List Ev, L = L0 ++ L1 ∧ 1 ≤ L1.length ∧ L1.length ≤ 20 ∧ ∀ ev ∈ L1, ev.op = 0 ∧ ev.who = who) := by
        obtain ⟨L1, h1, h2, h3, h4⟩ := HL.out
        refine ⟨L1, h1, ?_, by omega, h3⟩
        rcases Nat.eq_zero_or_pos L1.length with h5 | h5
        · exact absurd (h4 h5) hph
        · exact h5
      have hkt : k.t = t := HE.out.1
      have hks : k.s = s := HE.out.2.1
      have hno := HF.out.no
      have hp1 := HF.out.p1
      have hp2 := HF.out.p2
      have hk0 := HF.out.ok.s0
      have hk1 := HF.out.ok.s1
      rw [hkt] at hno hp1 hp2
      rw [hks] at hp2 hk1
      have HFIN : Hid ((k.ph = 1 ∧ usable C t hz k.slot ∧ k.holds C ∧ (m : Int) ≤ k.slot ∧ k.slot < m + s ∧ ∀ j, (m : Int) ≤ j → j < k.slot → ¬ usable C t hz j) ∨ (k.ph = 2 ∧ k.slot = m + s - 1 ∧ ∀ j, (m : Int) ≤ j → j < m + s → ¬ usable C t hz j)) := by
        rcases HF.out.pr with h | h | h
        · exact absurd h hph
        · exact .inl ⟨h, (hp1 h).1, (hp1 h).2, hk0, hk1, hno⟩
        · have h2 := hp2 h
          refine .inr ⟨h, h2.1, fun j h3 h4 => ?_⟩
          rcases (by omega : j < k.slot ∨ j = k.slot) with h5 | rfl
          · exact hno j h3 h5
          · exact h2.2
      clear hph hkt hks hno hp1 hp2 hk0 hk1 HF HE
      obtain ⟨wo, rfl⟩ : ∃ wo : World, wo = wr := ⟨_, rfl⟩
      obtain ⟨q0, q1, q2, q3⟩ := HA.out.later HH.out.below Hs.out
      have hmw : wrap64 (who * s) = (m : Int) := by rw [HMQ.out]; unfold wrap64; omega
      have HB5 : Hid (Below w5.heap.size w5 w5) := Below.refl _ _
      go_wp2_with fail
      clear q0 q1 q2 q3
      go_loopw [16, 17] (fun vw i wr => ∃ (iv wv : Int), -1 ≤ iv ∧ iv ≤ s - 1 ∧ i = .int .i64 iv ∧ vw = .int .i64 wv ∧ -1 ≤ wv ∧ wv ≤ 16 ∧ Hid (Below w5.heap.size w5 wr) ∧ Hid ((wv = -1 ∧ ∀ j, (m : Int) + iv < j → j < m + s → ¬ usable C t hz j) ∨ ((m : Int) + iv < wv ∧ wv < m + s ∧ usable C t hz wv ∧ ∀ j, (m : Int) + iv < j → j < wv → ¬ usable C t hz j))) (fun _ i _ => (intOf i + 1).toNat)
      case atStart => exact ⟨s - 1, -1, by omega, by omega, by go_num, rfl, by omega, by omega, HB5, .inl ⟨rfl, fun j h1 h2 => by omega⟩⟩
      case round =>
        clear HB5
        obtain ⟨iv, wv, hi0, hi1, rfl, rfl, hv0, hv1, HBW, HWV⟩ := hrel
        have HHr := Lib.hid (HH.out.later HBW.out)
        obtain ⟨q0, q1, q2, q3⟩ := HA.out.later HHr.out.below Hs.out
        rcases Int.lt_or_le iv 0 with hneg | hpos
        · have hiv : ¬ (0 : Int) ≤ iv := by omega
          obtain rfl : iv = -1 := by omega
          have HEQ : Hid ((k.ph = 1 ∧ k.slot = wv ∧ k.holds C ∧ 0 ≤ wv ∧ wv < m + s) ∨ (k.ph = 2 ∧ wv = -1 ∧ k.slot = m + s - 1)) := by
            rcases HFIN.out with ⟨h1, h2, h3, h4, h5, h6⟩ | ⟨h1, h2, h3⟩
            · rcases HWV.out with ⟨g1, g2⟩ | ⟨g1, g2, g3, g4⟩
              · exact absurd h2 (g2 k.slot (by omega) h5)
              · refine .inl ⟨h1, ?_, h3, by omega⟩
                rcases (by omega : k.slot < wv ∨ k.slot = wv ∨ wv < k.slot) with h | h | h
                · exact absurd h2 (g4 k.slot (by omega) h)
                · exact h
                · exact absurd g3 (h6 wv (by omega) h)
            · rcases HWV.out with ⟨g1, g2⟩ | ⟨g1, g2, g3, g4⟩
              · exact .inr ⟨h1, g1, h2⟩
              · exact absurd g3 (h3 wv (by omega) g2)
          have HHF := HHr
          clear HFIN HWV HHr
          obtain ⟨L1, hL1, hL2, hL3, hL4⟩ := HL9.out
          have hLlen : L.length = LN + L1.length := by rw [hL1, List.length_append, HL00.out]
          have HL4 : Hid (∀ i, i < L1.length → ∃ ev : Ev, L[LN + i]? = some ev ∧ ev.op = 0 ∧ ev.who = who) := fun i hi => by
            refine ⟨L1[i], ?_, hL4 _ (List.getElem_mem hi)⟩
            rw [hL1, List.getElem?_append_right (by rw [HL00.out]; omega), HL00.out, show LN + i - LN = i by omega, List.getElem?_eq_getElem hi]
          go_wp2_with fail
          refine (log_any W.heap.size _ p c v C L HHF.out.mem (by omega)).mono ?_
          rintro r w6 ⟨lv, rfl, hrow, hb6⟩
          have hshape : ∃ gb cap, lv = .slice (some ⟨gb, 0, none⟩) L.length cap ∧ L.length ≤ cap ∧ gb < w6.heap.size := by
            rcases hrow.2 with ⟨_, h0⟩ | ⟨g', cap, cur, rfl, _, hh, hcp, _⟩
            · omega
            · exact ⟨g', cap, rfl, hcp, (Array.getElem?_eq_some_iff.1 hh).1⟩
          obtain ⟨gb, cap, rfl, hcap, hgb⟩ := hshape
          have HCE : Hid (∀ i, i < L1.length → ∃ ev : Ev, ev.op = 0 ∧ ev.who = who ∧ w6.cell? ⟨gb, LN * 6 + i * 6, none⟩ = some (i64 ev.who) ∧ w6.cell? ⟨gb, LN * 6 + i * 6 + 1, none⟩ = some (i64 ev.op) ∧ w6.cell? ⟨gb, LN * 6 + i * 6 + 2, none⟩ = some (i64 ev.cell) ∧ w6.cell? ⟨gb, LN * 6 + i * 6 + 3, none⟩ = some (.int .u64 ev.old) ∧ w6.cell? ⟨gb, LN * 6 + i * 6 + 4, none⟩ = some (.int .u64 ev.new) ∧ w6.cell? ⟨gb, LN * 6 + i * 6 + 5, none⟩ = some (.bool ev.ok)) := fun i hi => by
            obtain ⟨ev, h1, h2, h3⟩ := HL4.out i hi
            have k : ∀ j u, ev.cells[j]? = some u → w6.cell? ⟨gb, LN * 6 + i * 6 + j, none⟩ = some u := fun j u hj => by
              have hjl : j < ev.cells.length := (List.getElem?_eq_some_iff.1 hj).1
              have hjl' : ev.cells.length = 6 := rfl
              rw [show LN * 6 + i * 6 + j = (LN + i) * 6 + j by omega, hrow.cellAt ((LN + i) * 6 + j) (by omega)]
              exact flatE_at L (LN + i) ev h1 j u hj
            exact ⟨ev, h2, h3, k 0 _ rfl, k 1 _ rfl, k 2 _ rfl, k 3 _ rfl, k 4 _ rfl, k 5 _ rfl⟩
          have HH6 := Lib.hid (HHF.out.later hb6)
          rw [hLlen]
          have hc1 : LN < cap := by omega
          have hc2 : LN ≤ cap := by omega
          have hsub : LN + L1.length - LN = L1.length := by omega
          have hle : LN + L1.length ≤ cap := by omega
          have HGB := Lib.hid hgb
          clear hrow hb6 HHF HL4 hL1 hL4 hLlen hcap q0 q1 q2 q3 hgb
          obtain ⟨wo, rfl⟩ : ∃ wo : World, wo = wr := ⟨_, rfl⟩
          go_wp2_with fail
          have HB6 : Hid (Below w6.heap.size w6 w6) := Below.refl _ _
          go_loopw [103] (fun i wr => ∃ (e : Nat), e ≤ L1.length ∧ i = .int .i64 e ∧ Hid (Below w6.heap.size w6 wr)) (fun i _ => L1.length - (intOf i).toNat)
          case atStart => exact ⟨0, by omega, rfl, HB6⟩
          case round =>
            clear HB6
            obtain ⟨e, he, rfl, HBW⟩ := hrel
            rcases Nat.lt_or_ge e L1.length with heL | heL
            · obtain ⟨ev, h0, h1, g0, g1, g2, g3, g4, g5⟩ := HCE.out e heL
              have up := fun j u (h : w6.cell? ⟨gb, LN * 6 + e * 6 + j, none⟩ = some u) => (HBW.out.cell (p := ⟨gb, LN * 6 + e * 6 + j, none⟩) HGB.out).trans h
              replace g0 := (HBW.out.cell (p := ⟨gb, LN * 6 + e * 6, none⟩) HGB.out).trans g0
              replace g1 := up _ _ g1
              replace g2 := up _ _ g2
              replace g3 := up _ _ g3
              replace g4 := up _ _ g4
              replace g5 := up _ _ g5
              rw [h1] at g0
              rw [h0] at g1
              clear up h0 h1
              have heL' : (e : Int) < (L1.length : Int) := by omega
              go_wp2_with fail
              go_roundw
              case rel => exact ⟨e + 1, by omega, by go_num, below_new HBW.out _⟩
              case measure => simp [intOf]; omega
            · have heL' : ¬ e < L1.length := by omega
              have HHg := Lib.hid (HH6.out.later HBW.out)
              clear HBW HH6 HCE
              obtain ⟨q0, q1, q2, q3⟩ := HA.out.later HHg.out.below Hs.out
              rcases HEQ.out with ⟨hp, hs, hh, hw, hw2⟩ | ⟨hp, hw, hs⟩
              · obtain ⟨j, hj⟩ : ∃ j : Nat, wv = (j : Int) := ⟨wv.toNat, by omega⟩
                subst hj
                have hsn : k.slot.toNat = j := by rw [hs, Int.toNat_natCast]
                have hjl : j < C.length := by
                  have h2 := HC.out
                  omega
                have HPK : Hid (C[j]? = some (C.getD j 0)) := getD_at hjl
                have HP := Lib.hid hp
                have HS := Lib.hid hs
                obtain ⟨y0, y1, y2, y3, y4⟩ := hh
                rw [hsn] at y0 y1 y2 y3 y4
                have hxr := HHg.out.mem.numAt HPK.out
                generalize C.getD j 0 = x at HPK hxr y0 y1 y2 y3 y4
                have hU := fun W1 => unpack_any x W1 hxr.1 hxr.2
                have hWD := fun W1 (hW : IsObj W1 b k.list) => clword_any W1 b k hp hW
                rw [y0, y1, y2, y3, y4] at hWD
                generalize x % 4 = xs at hU hWD
                generalize x / 4 % 2 = xe at hU hWD
                generalize x / 8 % 8192 = xg at hU hWD
                generalize x / 65536 % 16777216 = xl at hU hWD
                generalize x / 1099511627776 = xh at hU hWD
                have HU := Lib.hid hU
                have HWD := Lib.hid hWD
                have HOB := Lib.hid HHg.out.obj
                have HMB := Lib.hid HHg.out.mem
                clear hU hWD hxr y0 y1 y2 y3 y4 hp hs hsn hjl HEQ hw hw2
                have hjn : ¬ (j : Int) < 0 := by omega
                go_wp2_with fail
                refine wp_region_seq ((0, true) :: (1, false) :: (2, true) :: (3, true) :: (4, true) :: (6, true) :: (5, false) :: (7, true) :: (8, true) :: (9, true) :: (10, true) :: (12, true) :: (13, true) :: (14, true) :: (11, false) :: (15, false) :: (16, false) :: (17, false) :: (18, true) :: (19, true) :: (20, true) :: []) (by kernel_rfl) (by kernel_rfl) (by kernel_rfl) (by decide) (fun _ _ _ _ _ h => h) (fun hHeld => ?_)
                repeat (first
                  | (refine seq_take (v := ?_) rfl ?_ ?_ ?_; rotate_left 1; rfl; (focus (intro wS hSw; have hk := below_rule hSw; go_simp; first | done | with_reducible rfl)); (try simp only [Act.put, List.setIfInBounds_toArray, List.set_cons_zero, List.set_cons_succ]))
                  | (refine seq_skip rfl ?_ ?_; rfl; (try simp only [Act.put, List.setIfInBounds_toArray, List.set_cons_zero, List.set_cons_succ]))
                  | (refine seq_run rfl (fun K hK => ?_); go_simp; (try (first | (go_at_call 23; refine (clphase_at 1 HP.out (HOB.out.later hHeld)).mono ?_; rintro e w' ⟨rfl, hb'⟩) | (go_at_call 24; refine (clslot_at j HS.out (HOB.out.later hHeld)).mono ?_; rintro e w' ⟨rfl, hb'⟩) | (go_at_call 25; refine (HWD.out _ (HOB.out.later hHeld)).mono ?_; rintro e w' ⟨rfl, hb'⟩) | (go_at_call 20; refine (cword_any _ _ _ _ _ _).mono ?_; rintro e w' ⟨rfl, hb'⟩) | (go_at_call 19; refine (quiet_below (peek_in W.heap.size _ p c v C L j x (HMB.out.later hHeld) HPK.out)).mono ?_; rintro e w' ⟨rfl, hb'⟩) | (go_at_call 18; refine (HU.out _).mono ?_; rintro e w' ⟨rfl, hb'⟩))); (try go_wp2_with fail); refine hK.out _ _ ?_ ?_; (focus (first | exact below_step hHeld hb' | exact below_new hHeld _ | exact hHeld)); (try clear hb'); clear hHeld hK K; intro hHeld; (try simp only [Act.put, List.setIfInBounds_toArray, List.set_cons_zero, List.set_cons_succ])))
                first | refine seq_done ?_ | skip
                have hbf := Lib.hid (below_step' HB.out (HHg.out.later hHeld).below HB.out.size)
                clear q0 q1 q2 q3 hHeld
                go_wp2
                go_ret
                exact ⟨rfl, hbf.out⟩
              · have HP := Lib.hid hp
                have HS := Lib.hid hs
                subst hw
                have e1 : IntKind.i64.wrap (who + 1) = who + 1 := IntWalk.i64_in _ (by omega)
                have e0 : (who + 1) * s = (m : Int) + s := by rw [Int.add_mul, Int.one_mul, HMQ.out]
                have e2 : IntKind.i64.wrap ((who + 1) * s) = (m : Int) + s := by rw [e0]; exact IntWalk.i64_in _ (by omega)
                have e3 : IntKind.i64.wrap ((m : Int) + s - 1) = (m : Int) + s - 1 := IntWalk.i64_in _ (by omega)
                have HOB := Lib.hid HHg.out.obj
                clear hp hs e0 HEQ
                go_wp2_with fail
                refine wp_region_seq ((0, true) :: (1, false) :: (2, true) :: (3, true) :: (4, true) :: (6, true) :: (7, true) :: (8, true) :: (9, true) :: (10, true) :: (11, true) :: (5, false) :: (12, true) :: (13, true) :: (14, true) :: []) (by kernel_rfl) (by kernel_rfl) (by kernel_rfl) (by decide) (fun _ _ _ _ _ h => h) (fun hHeld => ?_)
                repeat (first
                  | (refine seq_take (v := ?_) rfl ?_ ?_ ?_; rotate_left 1; rfl; (focus (intro wS hSw; have hk := below_rule hSw; go_simp; first | done | with_reducible rfl)); (try simp only [Act.put, List.setIfInBounds_toArray, List.set_cons_zero, List.set_cons_succ]))
                  | (refine seq_skip rfl ?_ ?_; rfl; (try simp only [Act.put, List.setIfInBounds_toArray, List.set_cons_zero, List.set_cons_succ]))
                  | (refine seq_run rfl (fun K hK => ?_); go_simp; (try (first | (go_at_call 23; refine (clphase_at 2 HP.out (HOB.out.later hHeld)).mono ?_; rintro e w' ⟨rfl, hb'⟩) | (go_at_call 24; refine (clslot_at ((m : Int) + s - 1) HS.out (HOB.out.later hHeld)).mono ?_; rintro e w' ⟨rfl, hb'⟩))); (try go_wp2_with fail); refine hK.out _ _ ?_ ?_; (focus (first | exact below_step hHeld hb' | exact below_new hHeld _ | exact hHeld)); (try clear hb'); clear hHeld hK K; intro hHeld; (try simp only [Act.put, List.setIfInBounds_toArray, List.set_cons_zero, List.set_cons_succ])))
                first | refine seq_done ?_ | skip
                have hbf := Lib.hid (below_step' HB.out (HHg.out.later hHeld).below HB.out.size)
                clear q0 q1 q2 q3 hHeld
                go_wp2
                go_ret
                exact ⟨rfl, hbf.out⟩
        · obtain ⟨j, hj⟩ : ∃ j : Nat, (m : Int) + iv = (j : Int) := ⟨((m : Int) + iv).toNat, by omega⟩
          have HJE := Lib.hid hj
          have HPK : Hid (C[j]? = some (C.getD j 0)) := getD_at (by have := HC.out; omega)
          have hjN : (j : Int) < N := by omega
          have HUS : Hid (usable C t hz (j : Int) ↔ (C.getD j 0 / 8 % 8192 ≠ 8191 ∧ (C.getD j 0 % 4 = 0 ∨ (C.getD j 0 % 4 = 2 ∧ ∀ h : Nat, (h : Int) < t → C.getD (hz + h) 0 ≠ (j : Int) + 1)))) := by
            unfold usable
            rw [Int.toNat_natCast]
            exact Iff.rfl
          have hxr := HHr.out.mem.numAt HPK.out
          generalize C.getD j 0 = x at HPK HUS hxr
          have hU := fun W => unpack_any x W hxr.1 hxr.2
          have hg1 : x / 8 % 8192 ≤ 8191 := by omega
          generalize x % 4 = xs at hU HUS
          generalize x / 4 % 2 = xe at hU
          generalize x / 8 % 8192 = xg at hU HUS hg1
          generalize x / 65536 % 16777216 = xl at hU
          generalize x / 1099511627776 = xh at hU
          have HU := Lib.hid hU
          clear hU hxr
          have hmj : wrap64 ((m : Int) + iv) = (j : Int) := by rw [hj]; unfold wrap64; omega
          have no' : ¬ usable C t hz (j : Int) → Hid ((wv = -1 ∧ ∀ e, (m : Int) + (iv - 1) < e → e < m + s → ¬ usable C t hz e) ∨ ((m : Int) + (iv - 1) < wv ∧ wv < m + s ∧ usable C t hz wv ∧ ∀ e, (m : Int) + (iv - 1) < e → e < wv → ¬ usable C t hz e)) := fun hn => by
            rcases HWV.out with ⟨h1, h2⟩ | ⟨h1, h2, h3, h4⟩
            · refine .inl ⟨h1, fun e h5 h6 => ?_⟩
              rcases (by omega : e = (j : Int) ∨ (m : Int) + iv < e) with rfl | h7
              · exact hn
              · exact h2 e h7 h6
            · refine .inr ⟨by omega, h2, h3, fun e h5 h6 => ?_⟩
              rcases (by omega : e = (j : Int) ∨ (m : Int) + iv < e) with rfl | h7
              · exact hn
              · exact h4 e h7 h6
          have yes' : usable C t hz (j : Int) → Hid (((j : Int) = -1 ∧ ∀ e, (m : Int) + (iv - 1) < e → e < m + s → ¬ usable C t hz e) ∨ ((m : Int) + (iv - 1) < (j : Int) ∧ (j : Int) < m + s ∧ usable C t hz (j : Int) ∧ ∀ e, (m : Int) + (iv - 1) < e → e < (j : Int) → ¬ usable C t hz e)) := fun hy => .inr ⟨by omega, by omega, hy, fun e h5 h6 => by omega⟩
          have NO := Lib.hid no'
          have YES := Lib.hid yes'
          have HGD := fun W1 (hW : Below wr.heap.size wr W1) => guarded_any W.heap.size W1 p c v C L t s j N hz hlay t2 hN2 HHZ.out HC.out (by omega) hjN (HHr.out.mem.later hW)
          have HG := Lib.hid HGD
          clear no' yes' HWV HGD
          go_wp2_with fail
          (try rw [hj])
          clear hj
          refine (cword_any _ _ _ _ _ _).mono ?_
          rintro r w6 ⟨rfl, hb6⟩
          have HB6 := Lib.hid hb6
          clear hb6 q0 q1 q2 q3 hmj hmw
          go_wp2_with fail
          refine (peek_in W.heap.size _ p c v C L j x (HHr.out.mem.later HB6.out) HPK.out).mono ?_
          rintro r w' ⟨rfl, rfl⟩
          go_wp2_with fail
          refine (HU.out _).mono ?_
          rintro r w7 ⟨rfl, hb7⟩
          have HB7 := Lib.hid (below_step HB6.out hb7)
          clear hb7 HB6 HU HPK
          have HB8 := Lib.hid (below_new HB7.out (.cells #[.int .i64 xs, .int .i64 xe, .int .i64 xg, .int .i64 xl, .int .i64 xh] 42))
          have HBf : Hid (Below w5.heap.size w5 (w7.alloc (.cells #[.int .i64 xs, .int .i64 xe, .int .i64 xg, .int .i64 xl, .int .i64 xh] 42))) := below_step HBW.out HB8.out
          by_cases hg : xg = 8191
          · have qg : decide (xg < 8191) = false := decide_eq_false (by omega)
            have HR := Lib.hid (NO.out (fun hu => ((HUS.out.1 hu).1) hg))
            have hng : ¬ xg < 8191 := by omega
            clear hg qg
            go_wp2_with fail
            go_roundw
            case rel => exact ⟨iv - 1, wv, by omega, by omega, by go_num, rfl, hv0, hv1, HBf, HR.out⟩
            case measure => simp [intOf]; omega
          · have hng : xg < 8191 := by omega
            by_cases hs0 : xs = 0
            · have qs : (xs == 0) = true := by simp [hs0]
              have HR := Lib.hid (YES.out (HUS.out.2 ⟨hg, .inl hs0⟩))
              clear hg hs0
              go_wp2_with fail
              go_roundw
              case rel => exact ⟨iv - 1, (j : Int), by omega, by omega, by go_num, rfl, by omega, by omega, HBf, HR.out⟩
              case measure => simp [intOf]; omega
            · have qs : (xs == 0) = false := by simp [hs0]
              by_cases hs2 : xs = 2
              · have qs2 : (xs == 2) = true := by simp [hs2]
                obtain ⟨q0, q1, q2, q3⟩ := HA.out.later (HHr.out.later HB8.out).below Hs.out
                have HUS2 : Hid (usable C t hz (j : Int) ↔ ∀ h : Nat, (h : Int) < t → C.getD (hz + h) 0 ≠ (j : Int) + 1) := by
                  refine HUS.out.trans ⟨fun h => ?_, fun h => ⟨hg, .inr ⟨hs2, h⟩⟩⟩
                  rcases h.2 with h1 | h1
                  · exact absurd h1 hs0
                  · exact h1.2
                clear hg hs0 hs2
                go_wp2_with fail
                refine (HG.out _ HB8.out).mono ?_
                rintro r w9 ⟨hr, hb9⟩
                have HB9 : Hid (Below w5.heap.size w5 w9) := below_step HBf.out hb9
                clear hb9 q0 q1 q2 q3
                rcases hr with ⟨rfl, hex⟩ | ⟨rfl, hall⟩
                · have HR := Lib.hid (NO.out (fun hu => by
                    obtain ⟨h, h1, h2⟩ := hex
                    exact HUS2.out.1 hu h h1 h2))
                  clear hex
                  go_wp2_with fail
                  go_roundw
                  case rel => exact ⟨iv - 1, wv, by omega, by omega, by go_num, rfl, hv0, hv1, HB9, HR.out⟩
                  case measure => simp [intOf]; omega
                · have HR := Lib.hid (YES.out (HUS2.out.2 hall))
                  clear hall
                  go_wp2_with fail
                  go_roundw
                  case rel => exact ⟨iv - 1, (j : Int), by omega, by omega, by go_num, rfl, by omega, by omega, HB9, HR.out⟩
                  case measure => simp [intOf]; omega
              · have qs2 : (xs == 2) = false := by simp [hs2]
                have HR := Lib.hid (NO.out (fun hu => by
                  rcases (HUS.out.1 hu).2 with h1 | h1
                  · exact hs0 h1
                  · exact hs2 h1.1))
                clear hg hs0 hs2
                go_wp2_with fail
                go_roundw
                case rel => exact ⟨iv - 1, wv, by omega, by omega, by go_num, rfl, hv0, hv1, HBf, HR.out⟩
                case measure => simp [intOf]; omega

end Go.Proofs.Ytgpdoihgnpkanaa
