/-
  TickFull answers true for all numbers, and leaves all memory that was there as it was. No condition.
-/
import Derived.Test.YtlogcoaajmbfeaaTickFullPure
namespace Go.Proofs.Ytlogcoaajmbfeaa
open Go.RowKit
set_option linter.unusedVariables false

theorem and_3 (a : Int) : bits .and .i64 a 3 = a % 4 := by rw [show (3 : Int) = ((3 : Nat) : Int) from rfl, and_i64 a 3 2 rfl (by decide)]; rfl
theorem src_3 (a : Int) : 0 ≤ wrap64 ((IntKind.u64.wrap a).tmod 3) ∧ wrap64 ((IntKind.u64.wrap a).tmod 3) ≤ 2 := by
  have h0 : 0 ≤ IntKind.u64.wrap a := by rw [IntKind.wrap_u64]; omega
  rw [Int.tmod_eq_emod_of_nonneg h0]
  unfold wrap64
  omega

theorem conf_full (a0 so : Int) (w : World) (s0 : 0 ≤ so) (s2 : so ≤ 2) :
    Calls Try.prog 9 #[.int .i64 a0, .int .i64 0, .int .i64 so, .int .i64 0] w fun r w' => (∃ t, r = .returned (cf t 1 so 0) ∧ 1 ≤ t ∧ t ≤ 4) ∧ Below w.heap.size w w' :=
  (conf_at a0 so 0 w).mono fun r w' ⟨h, hb⟩ => ⟨⟨_, by rw [src3 so s0 s2] at h; exact h, by omega, by omega⟩, hb⟩

/-- All threads' numbers, up to one, are near the end. -/
def Pre (nb : Nat) (t gap : Int) (n : Nat) (C : List Int) : Prop := C.length = nb + t.toNat ∧ ∀ j, j < n → C.getD (nb + j) 0 = 16777215 - gap

theorem Pre.step {nb : Nat} {t gap : Int} {n : Nat} {C : List Int} (h : Pre nb t gap n C) (hn : (n : Int) < t) : Pre nb t gap (n + 1) (C.set (nb + n) (16777215 - gap)) := by
  obtain ⟨h1, h2⟩ := h
  refine ⟨by rw [List.length_set]; exact h1, fun j hj => ?_⟩
  rw [getD_set']
  split
  · rfl
  · rename_i hne
    exact h2 j (by omega)
theorem Pre.near {nb : Nat} {t so who gap : Int} {n : Nat} {C : List Int} (h : Pre nb t gap n C) (hn : (n : Int) = t) (t1 : 1 ≤ t) (g0 : 0 ≤ gap) (g3 : gap ≤ 3) (w0 : 0 ≤ who) (w1 : who < t) : Near nb t so who gap 0 C := by
  obtain ⟨h1, h2⟩ := h
  have hz := h2 0 (by omega)
  rw [Nat.add_zero] at hz
  have hg : gtop gap 0 = 16777215 - gap := by unfold gtop; split <;> omega
  exact ⟨h1, fun _ => by omega, fun _ => by omega, fun _ => ⟨by rw [hg]; exact h2 _ (by omega), fun j hj => by rw [hg, h2 j (by omega)]; omega⟩⟩

set_option maxRecDepth 100000 in
set_option maxHeartbeats 4000000 in
theorem walk_TickFull (a0 : Int) (a1 : Int) (a2 : Int) (a3 : Int) (w : World) (w0 : (Lit.int .i64 a0).wf = true) (w1 : (Lit.int .i64 a1).wf = true) (w2 : (Lit.int .i64 a2).wf = true) (w3 : (Lit.int .i64 a3).wf = true) :
    Calls Try.prog 6 #[.int .i64 a0, .int .i64 a1, .int .i64 a2, .int .i64 a3] w fun e w' => e = .returned (.bool true) ∧ Below w.heap.size w w' := by
  clear w0 w1 w2 w3
  obtain ⟨u3, hu3, l3, g3⟩ : ∃ u, bits .and .i64 a2 65535 = u ∧ 0 ≤ u ∧ u ≤ 65535 := ⟨_, and_ffff a2, by omega, by omega⟩
  obtain ⟨gap, hu4, l4, g4⟩ : ∃ u, bits .and .i64 a3 3 = u ∧ 0 ≤ u ∧ u ≤ 3 := ⟨_, and_3 a3, by omega, by omega⟩
  go_enter Try.func6, Try.ntmps6
  go_wp2_with fail
  refine (head5_any _).mono ?_
  rintro e w1 ⟨rfl, hb1⟩
  go_wp2_with fail
  obtain ⟨s0, s2⟩ := src_3 a1
  generalize wrap64 ((IntKind.u64.wrap a1).tmod 3) = so at s0 s2 ⊢
  refine (conf_full a0 so _ s0 s2).mono ?_
  rintro e w2 ⟨⟨t, rfl, t1, t2⟩, hb2⟩
  have ht0 : (t == 0) = false := by simp; omega
  have hB2 := Lib.hid (below_step hb1 hb2)
  clear hb1 hb2
  go_wp2_with fail
  have hw0 := Int.emod_nonneg u3 (show t ≠ 0 by omega)
  have hw1 := Int.emod_lt_of_pos u3 (show 0 < t by omega)
  generalize u3 % t = who at hw0 hw1 ⊢
  clear hu3 l3 g3 hu4
  have hA := AtC.made w2 t 1 so 0
  have hB3 := below_new (Below.refl w2.heap.size w2) (.cells #[.int .i64 t, .int .i64 1, .int .i64 so, .int .i64 0] 26)
  have hs3 : w2.heap.size < (w2.alloc (.cells #[.int .i64 t, .int .i64 1, .int .i64 so, .int .i64 0] 26)).heap.size := by simp
  have HA := Lib.hid hA
  have HB := Lib.hid (below_step hB2.out hB3)
  have Hs := Lib.hid hs3
  clear hA hB3 hs3 hB2
  generalize w2.alloc (.cells #[.int .i64 t, .int .i64 1, .int .i64 so, .int .i64 0] 26) = W at HA HB Hs ⊢
  generalize w2.heap.size = cb at HA Hs ⊢
  clear w2 w1
  obtain ⟨nb, hnb⟩ : ∃ nb : Nat, (nb : Int) = 3 * t := ⟨(3 * t).toNat, by omega⟩
  have Hnb := Lib.hid hnb
  have Hnb2 : Hid ((nb : Int) = 2 * t + t) := by show _ = _; omega
  have hlay := Lay.of4 t1 t2
  refine (ccells_any t 1 so 0 t _ hlay).mono ?_
  rintro r w1 ⟨rfl, hb1⟩
  go_wp2_with fail
  refine (new_nat W.heap.size (nb + t.toNat) _ _ hb1.size (by omega) (.inl (by omega))).mono ?_
  rintro r w2 ⟨p, c, rfl, hM2, hb2, hp, hc⟩
  have hO := Own.made hb1 hM2 hb2
  have hP0 : Pre nb t gap 0 (List.replicate (nb + t.toNat) 0) := ⟨by simp, fun j hj => by omega⟩
  have EW : Hid (IntKind.u64.wrap (16777215 - gap) = 16777215 - gap) := by show _ = _; rw [IntKind.wrap_u64]; omega
  clear hM2 hb2 hb1 hp hc hnb
  go_wp2_with fail
  go_loopw [11] (fun i wr => ∃ (n : Nat) (v : Value) (C : List Int) (L : List Ev), (n : Int) ≤ t ∧ i = .int .i64 n ∧ Own W wr p c v C L ∧ Hid (Pre nb t gap n C) ∧ Hid (L.length ≤ n)) (fun i _ => 10 - (intOf i).toNat)
  case atStart => exact ⟨0, _, _, _, by omega, rfl, hO, hP0, Nat.le_refl _⟩
  case round =>
    clear hO hP0
    obtain ⟨n, v, C, L, hn, rfl, hO, hP, hL⟩ := hrel
    obtain ⟨q0, q1, q2, q3⟩ := HA.out.later hO.below Hs.out
    rcases Int.lt_or_le (n : Int) t with hlt | hge
    · go_wp2_with fail
      refine (cnum_at t 1 so 0 t nb n _ hlay Hnb2.out (by omega)).mono ?_
      rintro r w3 ⟨rfl, hb3⟩
      replace hO := hO.later hb3
      clear hb3 q0 q1 q2 q3
      go_wp2_with fail
      (first | rw [← Int.natCast_add] | skip)
      refine (store_in _ _ p c _ _ _ (-1) (nb + n) _ (16777215 - gap) hO.mem (getD_at (by have := hP.out.1; omega)) hO.size (by have := hL.out; omega) (by omega) (by omega)).mono ?_
      rintro r w4 ⟨rfl, v4, hT⟩
      replace hO := hO.step hT
      clear hT
      go_wp2_with fail
      go_roundw
      case rel => exact ⟨n + 1, v4, _, _, by omega, by go_num, hO, hP.out.step hlt, by show _ ≤ _; rw [List.length_append]; have := hL.out; simp; omega⟩
      case measure => simp [intOf]; omega
    · have hN0 : Near nb t so who gap 0 C := hP.out.near (by omega) t1 l4 g4 hw0 hw1
      have hL0 : L.length ≤ 4 + 10 * 0 := by have := hL.out; omega
      have HN0 := Lib.hid hN0
      have HL0 := Lib.hid hL0
      clear hN0 hL0 hL hP EW
      go_wp2_with fail
      clear q0 q1 q2 q3
      go_loopw [12] (fun i wr => ∃ (n : Nat) (v : Value) (C : List Int) (L : List Ev), n ≤ 6 ∧ i = .int .i64 n ∧ Own W wr p c v C L ∧ Hid (Near nb t so who gap n C) ∧ Hid (L.length ≤ 4 + 10 * n)) (fun i _ => 10 - (intOf i).toNat)
      case atStart => exact ⟨0, _, _, _, by omega, rfl, hO, HN0, HL0⟩
      case round =>
        clear hO HN0 HL0
        obtain ⟨n, v, C, L, hn, rfl, hO, hN, hL⟩ := hrel
        rcases Nat.lt_or_ge n 6 with hlt | hge
        · obtain ⟨q0, q1, q2, q3⟩ := HA.out.later hO.below Hs.out
          go_wp2_with fail
          refine (tnew_any _ t 1 so 0 who).mono ?_
          rintro r w3 ⟨b, rfl, hT3, hb3, hbb⟩
          have hap := hO.apart hbb
          replace hbb := Nat.le_trans hO.size hbb
          replace hO := hO.later hb3
          have hR := near_round hN.out s0 s2 hw0 hw1 t1 t2 l4 g4 hlt
          have HR := Lib.hid hR
          have hk0 : Tk.Ok (tk0 t 1 so 0 who) nb t C := by
            have h := (solo_0 (now := 0) (so := so) (d := 0) t1 t2 s0 (by omega) (by decide) (by decide) hw0 hw1 Hnb.out).ok
            exact ⟨h.lay, h.nt, hN.out.len, h.w0, h.w1, h.s0, h.s1, h.e0, h.e1, h.o0, h.o1, h.d0, h.d1, h.p0, h.p1, h.sw⟩
          have HT3 := Lib.hid hT3
          have HP3 := Lib.hid hap
          have HK0 := Lib.hid hk0
          clear hb3 q0 q1 q2 q3 hR hk0 hT3 hap
          go_wp2_with fail
          go_loopw [14] (fun i wr => ∃ (m : Nat) (k : Tk) (v' : Value) (C' : List Int) (L' : List Ev), m ≤ 10 ∧ i = .int .i64 m ∧ Own W wr p c v' C' L' ∧ Hid (itr nb m (tk0 t 1 so 0 who, C) = (k, C')) ∧ Hid (IsTk wr b k) ∧ Hid (¬ Foot p c v' b) ∧ Hid (k.Ok nb t C') ∧ Hid (k.steps ≤ m) ∧ Hid (L'.length ≤ L.length + m)) (fun i _ => 12 - (intOf i).toNat)
          case atStart => exact ⟨0, _, _, _, _, by omega, rfl, hO, rfl, HT3, HP3, HK0, Int.le_refl _, Nat.le_refl _⟩
          case round =>
            clear hO HT3 HP3 HK0
            obtain ⟨m, k, v', C', L', hm, rfl, hO, hI, hT, hap, hk, hs, hL'⟩ := hrel
            rcases Nat.lt_or_ge m 10 with hlt2 | hge2
            · have hst := step_any W.heap.size _ b p c v' C' L' k nb t 0 hk.out (Int.le_refl _) hT.out hO.mem hap.out hO.size (by have := hL'.out; have := hL.out; omega)
              have HST := Lib.hid hst
              clear hst
              go_wp2_with fail
              refine HST.out.mono ?_
              rintro r w4 ⟨rfl, v4, hS⟩
              have hk4 := Lib.hid (stp_ok nb t k C' 0 hk.out (by have := hs.out; omega) (Int.le_refl _) (fun j => hO.mem.nn j))
              have hs4 := Lib.hid (stp_steps nb k C' 0)
              replace hO := hO.stepT hS hbb
              have hT4 := Lib.hid hS.tk
              have hA4 := Lib.hid hS.apart
              have hI4 : Hid (itr nb (m + 1) (tk0 t 1 so 0 who, C) = ((stp nb k C' 0).1, (stp nb k C' 0).2.1)) := by
                show ((stp nb (itr nb m (tk0 t 1 so 0 who, C)).1 (itr nb m (tk0 t 1 so 0 who, C)).2 0).1, (stp nb (itr nb m (tk0 t 1 so 0 who, C)).1 (itr nb m (tk0 t 1 so 0 who, C)).2 0).2.1) = _
                rw [hI.out]
              have hL4 : Hid ((L' ++ (stp nb k C' 0).2.2.toList).length ≤ L.length + (m + 1)) := by
                show _ ≤ _
                rw [List.length_append]
                have := hL'.out
                have h1 : (stp nb k C' 0).2.2.toList.length ≤ 1 := by cases (stp nb k C' 0).2.2 <;> simp
                omega
              have hs5 : Hid ((stp nb k C' 0).1.steps ≤ ((m + 1 : Nat) : Int)) := by
                show _ ≤ _
                have := hs4.out
                have := hs.out
                omega
              clear hS HST
              go_wp2_with fail
              go_roundw
              case rel => exact ⟨m + 1, _, v4, _, _, by omega, by go_num, hO, hI4, hT4, hA4, hk4, hs5, hL4⟩
              case measure => simp [intOf]; omega
            · obtain rfl : m = 10 := by omega
              have hR := HR.out
              rw [hI.out] at hR
              obtain ⟨r1, r2, r3⟩ := hR
              have HR3 : Hid (Near nb t so who gap ((n + 1 : Nat) : Int) C') := by
                show Near _ _ _ _ _ _ _
                rw [show ((n + 1 : Nat) : Int) = (n : Int) + 1 by omega]
                exact r3
              have HL3 : Hid (L'.length ≤ 4 + 10 * (n + 1)) := by show _ ≤ _; have := hL'.out; have := hL.out; omega
              clear r3 HR hI hge2 hm hk hs
              obtain ⟨q0, q1, q2, q3⟩ := HA.out.later hO.below Hs.out
              have hn6 : (n : Int) ≤ 6 := by omega
              by_cases hso : so = 1
              · obtain rfl := hso
                by_cases h3 : (n : Int) < good 1 gap
                · have h3' : (n : Int) < gap - 1 := h3
                  have HP := Lib.hid (r1 h3)
                  clear r1 r2
                  go_wp2_with fail
                  refine (phase_any _ b k hT.out).mono ?_
                  rintro r w' ⟨rfl, rfl⟩
                  rw [HP.out]
                  go_wp2_with fail
                  go_roundw
                  case rel => exact ⟨n + 1, v', C', L', by omega, by go_num, hO, HR3, HL3⟩
                  case measure => simp [intOf]; omega
                · have h3' : ¬ (n : Int) < gap - 1 := h3
                  obtain ⟨hp, hlo, hhi⟩ := r2 h3
                  have HP := Lib.hid hp
                  have HLo := Lib.hid hlo
                  have HHi := Lib.hid hhi
                  clear r1 r2 hp hlo hhi
                  go_wp2_with fail
                  refine (phase_any _ b k hT.out).mono ?_
                  rintro r w' ⟨rfl, rfl⟩
                  rw [HP.out]
                  go_wp2_with fail
                  refine (stamp_any _ b k hT.out).mono ?_
                  rintro r w5 ⟨rfl, hb5⟩
                  rw [HLo.out, HHi.out]
                  replace hO := hO.later hb5
                  clear hb5
                  go_wp2_with fail
                  go_roundw
                  case rel => exact ⟨n + 1, v', C', L', by omega, by go_num, hO, HR3, HL3⟩
                  case measure => simp [intOf]; omega
              · have qso : (so == 1) = false := by simp [hso]
                have hgd : good so gap = gap := if_neg hso
                rw [hgd] at r1 r2
                clear hgd hso
                by_cases h3 : (n : Int) < gap
                · have HP := Lib.hid (r1 h3)
                  clear r1 r2
                  go_wp2_with fail
                  refine (phase_any _ b k hT.out).mono ?_
                  rintro r w' ⟨rfl, rfl⟩
                  rw [HP.out]
                  go_wp2_with fail
                  go_roundw
                  case rel => exact ⟨n + 1, v', C', L', by omega, by go_num, hO, HR3, HL3⟩
                  case measure => simp [intOf]; omega
                · obtain ⟨hp, hlo, hhi⟩ := r2 h3
                  have HP := Lib.hid hp
                  have HLo := Lib.hid hlo
                  have HHi := Lib.hid hhi
                  clear r1 r2 hp hlo hhi
                  go_wp2_with fail
                  refine (phase_any _ b k hT.out).mono ?_
                  rintro r w' ⟨rfl, rfl⟩
                  rw [HP.out]
                  go_wp2_with fail
                  refine (stamp_any _ b k hT.out).mono ?_
                  rintro r w5 ⟨rfl, hb5⟩
                  rw [HLo.out, HHi.out]
                  replace hO := hO.later hb5
                  clear hb5
                  go_wp2_with fail
                  go_roundw
                  case rel => exact ⟨n + 1, v', C', L', by omega, by go_num, hO, HR3, HL3⟩
                  case measure => simp [intOf]; omega
        · have hbf := Lib.hid (below_step' HB.out hO.below (by have := HB.out.size; omega))
          clear hO hN hL
          go_wp2
          go_ret
          exact ⟨rfl, hbf.out⟩

end Go.Proofs.Ytlogcoaajmbfeaa
