/-
  TickMost answers true for all numbers, and leaves all memory that was there as it was. No condition.
-/
import Derived.Test.YtlogcoaajmbfeaaTickLaw
import Derived.Test.YtlogcoaajmbfeaaTickPure
namespace Go.Proofs.Ytlogcoaajmbfeaa
open Go.RowKit
set_option linter.unusedVariables false

theorem and_ffff (a : Int) : bits .and .i64 a 65535 = a % 65536 := by rw [show (65535 : Int) = ((65535 : Nat) : Int) from rfl, and_i64 a 65535 16 rfl (by decide)]; rfl
theorem IsMem.nn {base : Nat} {w : World} {p c : Nat} {v : Value} {C : List Int} {L : List Ev} (h : IsMem base w p c v C L) (j : Nat) : 0 ≤ C.getD j 0 := by
  by_cases hj : j < C.length
  · exact (h.numAt (getD_at hj)).1
  · rw [List.getD_eq_getElem?_getD, List.getElem?_eq_none (by omega)]
    decide
theorem Lay.of4 {t : Int} (t1 : 1 ≤ t) (t2 : t ≤ 4) : Lay t 1 t := ⟨by omega, t1, by omega, by omega, by omega, by omega, by omega, by omega⟩
theorem zeros (n j : Nat) : (List.replicate n (0 : Int)).getD j 0 = 0 := by
  rw [List.getD_eq_getElem?_getD, List.getElem?_replicate]
  split <;> rfl

theorem most_alone {T so d : Int} (h0 : 0 ≤ so) (h4 : so ≤ 4) : (so = 2 → most T so d = 4 ∧ alone T so d = 3) ∧ (so ≠ 2 → alone T so d = most T so d) := by
  unfold most alone
  rcases (by omega : so = 0 ∨ so = 1 ∨ so = 2 ∨ so = 3 ∨ so = 4) with rfl | rfl | rfl | rfl | rfl
  all_goals simp

theorem solo_0 {T so d who now : Int} {nb : Nat} (t1 : 1 ≤ T) (t2 : T ≤ 4) (s0 : 0 ≤ so) (s4 : so ≤ 4) (d0 : 0 ≤ d) (d3 : d ≤ 3) (w0 : 0 ≤ who) (w1 : who < T) (hnb : (nb : Int) = 3 * T) :
    Solo nb T T so d now 0 (tk0 T 1 so d who) (List.replicate (nb + T.toNat) 0) := by
  have ha : 1 ≤ alone T so d := by unfold alone; repeat' split
                                   all_goals omega
  have hok : Tk.Ok (tk0 T 1 so d who) nb T (List.replicate (nb + T.toNat) 0) := ⟨Lay.of4 t1 t2, by show (nb : Int) = 2 * T + T; omega, by simp [tk0], w0, w1, Int.le_refl _, by show (0 : Int) ≤ 1000000; decide, Int.le_refl _, by show (0 : Int) ≤ 16777215; decide, s0, s4, d0, by show d ≤ 100; omega, Int.le_refl _, by show (0 : Int) ≤ 2; decide, fun _ h => by exact absurd h (by show ¬ (1 : Int) ≤ 0; decide)⟩
  exact ⟨hok, rfl, rfl, rfl, by omega, rfl, fun j => by rw [zeros]; exact Int.le_refl _, fun _ => ⟨rfl, fun _ => rfl, fun _ h => absurd rfl h, fun j => zeros _ j⟩, fun h => by omega⟩

set_option maxRecDepth 100000 in
set_option maxHeartbeats 4000000 in
theorem walk_TickMost (a0 : Int) (a1 : Int) (a2 : Int) (a3 : Int) (a4 : Int) (w : World) (w0 : (Lit.int .i64 a0).wf = true) (w1 : (Lit.int .i64 a1).wf = true) (w2 : (Lit.int .i64 a2).wf = true) (w3 : (Lit.int .i64 a3).wf = true) (w4 : (Lit.int .i64 a4).wf = true) :
    Calls Try.prog 4 #[.int .i64 a0, .int .i64 a1, .int .i64 a2, .int .i64 a3, .int .i64 a4] w fun e w' => e = .returned (.bool true) ∧ Below w.heap.size w w' := by
  clear w0 w1 w2 w3 w4
  obtain ⟨u3, hu3, l3, g3⟩ : ∃ u, bits .and .i64 a3 65535 = u ∧ 0 ≤ u ∧ u ≤ 65535 := ⟨_, and_ffff a3, by omega, by omega⟩
  obtain ⟨u4, hu4, l4, g4⟩ : ∃ u, bits .and .i64 a4 65535 = u ∧ 0 ≤ u ∧ u ≤ 65535 := ⟨_, and_ffff a4, by omega, by omega⟩
  go_enter Try.func4, Try.ntmps4
  go_wp2_with fail
  refine (head5_any _).mono ?_
  rintro e w1 ⟨rfl, hb1⟩
  go_wp2_with fail
  refine (conf_any _ _ _ _).mono ?_
  rintro e w2 ⟨t, so, d, rfl, t1, t2, s0, s4, d0, d3, hb2⟩
  have ht0 : (t == 0) = false := by simp; omega
  have hB2 := Lib.hid (below_step hb1 hb2)
  clear hb1 hb2
  go_wp2_with fail
  have hw0 := Int.emod_nonneg u3 (show t ≠ 0 by omega)
  have hw1 := Int.emod_lt_of_pos u3 (show 0 < t by omega)
  generalize u3 % t = who at hw0 hw1 ⊢
  clear hu3 l3 g3
  have hA := AtC.made w2 t 1 so d
  have hB3 := below_new (Below.refl w2.heap.size w2) (.cells #[.int .i64 t, .int .i64 1, .int .i64 so, .int .i64 d] 26)
  have hs3 : w2.heap.size < (w2.alloc (.cells #[.int .i64 t, .int .i64 1, .int .i64 so, .int .i64 d] 26)).heap.size := by simp
  have HA := Lib.hid hA
  have HB := Lib.hid (below_step hB2.out hB3)
  have Hs := Lib.hid hs3
  clear hA hB3 hs3 hB2
  generalize w2.alloc (.cells #[.int .i64 t, .int .i64 1, .int .i64 so, .int .i64 d] 26) = W at HA HB Hs ⊢
  generalize w2.heap.size = cb at HA Hs ⊢
  clear w2 w1
  obtain ⟨nb, hnb⟩ : ∃ nb : Nat, (nb : Int) = 3 * t := ⟨(3 * t).toNat, by omega⟩
  have Hnb := Lib.hid hnb
  have hlay := Lay.of4 t1 t2
  refine (ccells_any t 1 so d t _ hlay).mono ?_
  rintro r w1 ⟨rfl, hb1⟩
  go_wp2_with fail
  refine (new_nat W.heap.size (nb + t.toNat) _ _ hb1.size (by omega) (.inl (by omega))).mono ?_
  rintro r w2 ⟨p, c, rfl, hM2, hb2, hp, hc⟩
  have hO := Own.made hb1 hM2 hb2
  clear hM2 hb2 hb1 hp hc hnb
  obtain ⟨q0, q1, q2, q3⟩ := HA.out.later hO.below Hs.out
  go_wp2_with fail
  refine (tnew_any _ t 1 so d who).mono ?_
  rintro r w3 ⟨b, rfl, hT3, hb3, hbb⟩
  have hap := hO.apart hbb
  replace hbb := Nat.le_trans hO.size hbb
  replace hO := hO.later hb3
  have hS0 := solo_0 (now := u4) t1 t2 s0 s4 d0 d3 hw0 hw1 Hnb.out
  clear hb3 q0 q1 q2 q3
  go_wp2_with fail
  go_loopw [14] (fun i wr => ∃ (n : Nat) (k : Tk) (v : Value) (C : List Int) (L : List Ev), i = .int .i64 n ∧ Hid (Solo nb t t so d u4 n k C) ∧ Hid (IsTk wr b k) ∧ Hid (¬ Foot p c v b) ∧ Own W wr p c v C L ∧ Hid (L.length ≤ n)) (fun i _ => 600 - (intOf i).toNat)
  case atStart => exact ⟨0, _, _, _, _, rfl, hS0, hT3, hap, hO, Nat.le_refl _⟩
  case round =>
    clear hO hS0 hT3 hap
    obtain ⟨n, k, v, C, L, rfl, HS, HT, hap, hO, hL⟩ := hrel
    have hal : alone t so d ≤ 5 := by unfold alone; repeat' split
                                      all_goals omega
    have hle := HS.out.le
    rcases Int.lt_or_le (n : Int) (alone t so d) with hlt | hge
    · have hp := (HS.out.going hlt).1
      have hk := HS.out.ok
      have hpk : k.ph = 0 := hp
      have hst := fun W1 v1 (hT : IsTk W1 b k) (hM : IsMem W.heap.size W1 p c v1 C L) (ha : ¬ Foot p c v1 b) (hb : W.heap.size ≤ W1.heap.size) => step_any W.heap.size W1 b p c v1 C L k nb t (u4 + n) hk (by omega) hT hM ha hb (by have := hL.out; omega)
      have HST := Lib.hid hst
      have HLT := Lib.hid hlt
      have HP := Lib.hid hp
      have hn5 : (n : Int) < 5 := by omega
      clear hst hk hp hpk hlt hle hal
      go_wp2_with fail
      refine (phase_any _ b k HT.out).mono ?_
      rintro r w' ⟨rfl, rfl⟩
      rw [HP.out]
      go_wp2_with fail
      refine (HST.out _ v HT.out hO.mem hap.out hO.size).mono ?_
      rintro r w4 ⟨rfl, v4, hS⟩
      replace hO := hO.stepT hS hbb
      have hT4 := Lib.hid hS.tk
      have hA4 := Lib.hid hS.apart
      have hS4 := Lib.hid (solo_step HS.out HLT.out l4 (by omega) t2 d3 (fun j => hO.mem.nn j))
      clear hS
      go_wp2_with fail
      go_roundw
      case rel => exact ⟨n + 1, _, v4, _, _, by go_num, hS4, hT4, hA4, hO, by show _ ≤ _; rw [List.length_append]; have := hL.out; have h1 : (stp nb k C (u4 + n)).2.2.toList.length ≤ 1 := (by cases (stp nb k C (u4 + n)).2.2 <;> simp); omega⟩
      case measure => simp [intOf]; omega
    · have HP := Lib.hid (HS.out.done (by omega))
      have hn : (n : Int) = alone t so d := by omega
      clear hge hle hal HS
      obtain ⟨q0, q1, q2, q3⟩ := HA.out.later hO.below Hs.out
      have hcb : cb < wr.heap.size := by have := Hs.out; have := hO.size; omega
      rcases (by omega : so = 0 ∨ so = 1 ∨ so = 2 ∨ so = 3 ∨ so = 4) with rfl | rfl | rfl | rfl | rfl
      · have qn : ((n : Int) == 1) = true := by have h : (n : Int) = 1 := hn; simp [h]
        have qm : (most t 0 d == 1) = true := by have h : most t 0 d = 1 := rfl; simp [h]
        clear hn
        go_wp2_with fail
        refine (phase_any _ b k HT.out).mono ?_
        rintro r w' ⟨rfl, rfl⟩
        rw [HP.out]
        go_wp2_with fail
        refine (phase_any _ b k (HT.out.later (by first | exact below_new (Below.refl _ _) _ | exact (below_new (Below.refl _ _) _).drew))).mono ?_
        rintro r w6 ⟨rfl, hw6⟩
        rw [HP.out]
        replace hO : Own W w6 p c v C L := by rw [← hw6]; exact hO.later (by first | exact below_new (Below.refl _ _) _ | exact (below_new (Below.refl _ _) _).drew)
        clear hw6 q0 q1 q2 q3
        obtain ⟨q0, q1, q2, q3⟩ := HA.out.later hO.below Hs.out
        go_wp2_with fail
        refine (most_any _ t 1 0 d t1 (by omega) d0 (by omega) (by decide) (by decide)).mono ?_
        rintro r w5 ⟨rfl, hb5⟩
        have hbf := Lib.hid (below_step' HB.out (hO.later hb5).below (by have := hO.size; have := HB.out.size; omega))
        clear hO hb5
        go_wp2
        go_ret
        exact ⟨rfl, hbf.out⟩
      · have qn : ((n : Int) == t + 1) = true := by have h : (n : Int) = t + 1 := hn; simp [h]
        have qm : (most t 1 d == t + 1) = true := by have h : most t 1 d = t + 1 := rfl; simp [h]
        clear hn
        go_wp2_with fail
        refine (phase_any _ b k HT.out).mono ?_
        rintro r w' ⟨rfl, rfl⟩
        rw [HP.out]
        go_wp2_with fail
        refine (phase_any _ b k (HT.out.later (by first | exact below_new (Below.refl _ _) _ | exact (below_new (Below.refl _ _) _).drew))).mono ?_
        rintro r w6 ⟨rfl, hw6⟩
        rw [HP.out]
        replace hO : Own W w6 p c v C L := by rw [← hw6]; exact hO.later (by first | exact below_new (Below.refl _ _) _ | exact (below_new (Below.refl _ _) _).drew)
        clear hw6 q0 q1 q2 q3
        obtain ⟨q0, q1, q2, q3⟩ := HA.out.later hO.below Hs.out
        go_wp2_with fail
        refine (most_any _ t 1 1 d t1 (by omega) d0 (by omega) (by decide) (by decide)).mono ?_
        rintro r w5 ⟨rfl, hb5⟩
        have hbf := Lib.hid (below_step' HB.out (hO.later hb5).below (by have := hO.size; have := HB.out.size; omega))
        clear hO hb5
        go_wp2
        go_ret
        exact ⟨rfl, hbf.out⟩
      · have qn : ((n : Int) == 3) = true := by have h : (n : Int) = 3 := hn; simp [h]
        have qm : (most t 2 d == 4) = true := by have h : most t 2 d = 4 := rfl; simp [h]
        clear hn
        go_wp2_with fail
        refine (phase_any _ b k HT.out).mono ?_
        rintro r w' ⟨rfl, rfl⟩
        rw [HP.out]
        go_wp2_with fail
        refine (phase_any _ b k (HT.out.later (by first | exact below_new (Below.refl _ _) _ | exact (below_new (Below.refl _ _) _).drew))).mono ?_
        rintro r w6 ⟨rfl, hw6⟩
        rw [HP.out]
        replace hO : Own W w6 p c v C L := by rw [← hw6]; exact hO.later (by first | exact below_new (Below.refl _ _) _ | exact (below_new (Below.refl _ _) _).drew)
        clear hw6 q0 q1 q2 q3
        obtain ⟨q0, q1, q2, q3⟩ := HA.out.later hO.below Hs.out
        go_wp2_with fail
        refine (most_any _ t 1 2 d t1 (by omega) d0 (by omega) (by decide) (by decide)).mono ?_
        rintro r w5 ⟨rfl, hb5⟩
        have hbf := Lib.hid (below_step' HB.out (hO.later hb5).below (by have := hO.size; have := HB.out.size; omega))
        clear hO hb5
        go_wp2
        go_ret
        exact ⟨rfl, hbf.out⟩
      · have qn : ((n : Int) == 1) = true := by have h : (n : Int) = 1 := hn; simp [h]
        have qm : (most t 3 d == 1) = true := by have h : most t 3 d = 1 := rfl; simp [h]
        clear hn
        go_wp2_with fail
        refine (phase_any _ b k HT.out).mono ?_
        rintro r w' ⟨rfl, rfl⟩
        rw [HP.out]
        go_wp2_with fail
        refine (phase_any _ b k (HT.out.later (by first | exact below_new (Below.refl _ _) _ | exact (below_new (Below.refl _ _) _).drew))).mono ?_
        rintro r w6 ⟨rfl, hw6⟩
        rw [HP.out]
        replace hO : Own W w6 p c v C L := by rw [← hw6]; exact hO.later (by first | exact below_new (Below.refl _ _) _ | exact (below_new (Below.refl _ _) _).drew)
        clear hw6 q0 q1 q2 q3
        obtain ⟨q0, q1, q2, q3⟩ := HA.out.later hO.below Hs.out
        go_wp2_with fail
        refine (most_any _ t 1 3 d t1 (by omega) d0 (by omega) (by decide) (by decide)).mono ?_
        rintro r w5 ⟨rfl, hb5⟩
        have hbf := Lib.hid (below_step' HB.out (hO.later hb5).below (by have := hO.size; have := HB.out.size; omega))
        clear hO hb5
        go_wp2
        go_ret
        exact ⟨rfl, hbf.out⟩
      · have qn : ((n : Int) == d + 2) = true := by have h : (n : Int) = d + 2 := hn; simp [h]
        have qm : (most t 4 d == d + 2) = true := by have h : most t 4 d = d + 2 := rfl; simp [h]
        clear hn
        go_wp2_with fail
        refine (phase_any _ b k HT.out).mono ?_
        rintro r w' ⟨rfl, rfl⟩
        rw [HP.out]
        go_wp2_with fail
        refine (phase_any _ b k (HT.out.later (by first | exact below_new (Below.refl _ _) _ | exact (below_new (Below.refl _ _) _).drew))).mono ?_
        rintro r w6 ⟨rfl, hw6⟩
        rw [HP.out]
        replace hO : Own W w6 p c v C L := by rw [← hw6]; exact hO.later (by first | exact below_new (Below.refl _ _) _ | exact (below_new (Below.refl _ _) _).drew)
        clear hw6 q0 q1 q2 q3
        obtain ⟨q0, q1, q2, q3⟩ := HA.out.later hO.below Hs.out
        go_wp2_with fail
        refine (most_any _ t 1 4 d t1 (by omega) d0 (by omega) (by decide) (by decide)).mono ?_
        rintro r w5 ⟨rfl, hb5⟩
        have hbf := Lib.hid (below_step' HB.out (hO.later hb5).below (by have := hO.size; have := HB.out.size; omega))
        clear hO hb5
        go_wp2
        go_ret
        exact ⟨rfl, hbf.out⟩

end Go.Proofs.Ytlogcoaajmbfeaa
