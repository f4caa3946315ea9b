/-
  PutFull answers true for all numbers, and leaves all memory that was there as it was. No condition.
-/
import Derived.Test.YtoogdfjlodchhaaPutLaw
import Derived.Test.YtoogdfjlodchhaaPutFullPure
import Derived.Test.YtoogdfjlodchhaaWalkPutTurn
import Derived.Test.YtoogdfjlodchhaaClaimLaw
import Derived.Test.YtoogdfjlodchhaaMemSame
import Derived.Deep.DeepCutAuto
namespace Go.Proofs.Ytoogdfjlodchhaa
open Go.RowKit
set_option linter.unusedVariables false

set_option maxRecDepth 100000 in
set_option maxHeartbeats 8000000 in
theorem walk_PutFull (a0 : Int) (a1 : Int) (a2 : Int) (a3 : Int) (a4 : Bool) (a5 : Int) (w : World) (w0 : (Lit.int .i64 a0).wf = true) (w1 : (Lit.int .i64 a1).wf = true) (w2 : (Lit.int .i64 a2).wf = true) (w3 : (Lit.int .i64 a3).wf = true) (w5 : (Lit.int .u64 a5).wf = true) :
    Calls Try.prog 5 #[.int .i64 a0, .int .i64 a1, .int .i64 a2, .int .i64 a3, .bool a4, .int .u64 a5] w fun e w' => e = .returned (.bool true) ∧ Below w.heap.size w w' := by
  obtain ⟨z0, z1⟩ := bounds_u64 w5
  clear w0 w1 w2 w3 w5
  obtain ⟨so, o0, o2, hso1, hso2⟩ := mod3 a2
  obtain ⟨uw, huw, lw, gw⟩ : ∃ u, bits .and .i64 a3 65535 = u ∧ 0 ≤ u ∧ u ≤ 65535 := ⟨_, and_ffff a3, by omega, by omega⟩
  go_enter Try.func5, Try.ntmps5
  go_wp2_with fail
  refine (head10_any _).mono ?_
  rintro e w1 ⟨rfl, hb1⟩
  go_wp2_with fail
  refine (conf4_so a0 a1 so 0 _ o0 o2).mono ?_
  rintro e w2 ⟨t, s, rfl, t1, t2, s1, s2, hb2⟩
  have ht0 : (t == 0) = false := by simp; omega
  have hB2 := Lib.hid (below_step hb1 hb2)
  clear hb1 hb2 hso1 hso2
  obtain ⟨N, hNe, hlay, hN1, hN2⟩ := lay44 t1 t2 s1 s2
  have hn0 : ¬ N = 0 := by omega
  clear hNe
  go_wp2_with fail
  have hw0 := Int.emod_nonneg uw (show t ≠ 0 by omega)
  have hw1 := Int.emod_lt_of_pos uw (show 0 < t by omega)
  generalize uw % t = who at hw0 hw1 ⊢
  clear huw lw gw
  have hA := AtC.made w2 t s so 0
  have hB3 := below_new (Below.refl w2.heap.size w2) (.cells #[.int .i64 t, .int .i64 s, .int .i64 so, .int .i64 0] 29)
  have hs3 : w2.heap.size < (w2.alloc (.cells #[.int .i64 t, .int .i64 s, .int .i64 so, .int .i64 0] 29)).heap.size := by simp
  have HA := Lib.hid hA
  have HB := Lib.hid (below_step hB2.out hB3)
  have Hs := Lib.hid hs3
  clear hA hB3 hs3 hB2
  generalize w2.alloc (.cells #[.int .i64 t, .int .i64 s, .int .i64 so, .int .i64 0] 29) = W at HA HB Hs ⊢
  generalize w2.heap.size = cb at HA Hs ⊢
  clear w2 w1
  obtain ⟨M, hM⟩ : ∃ M : Nat, 2 * (N : Int) + 2 * t = (M : Int) := ⟨(2 * (N : Int) + 2 * t).toNat, by omega⟩
  obtain ⟨nb, hnb⟩ : ∃ nb : Nat, (nb : Int) = 2 * N + t := ⟨(2 * N + t).toNat, by omega⟩
  obtain ⟨hz, hhz⟩ : ∃ hz : Nat, (hz : Int) = 2 * N := ⟨2 * N, by omega⟩
  have HM := Lib.hid hM
  have Hnb := Lib.hid hnb
  have Hhz := Lib.hid hhz
  refine (ccells_any t s so 0 N _ hlay).mono ?_
  rintro r w1 ⟨rfl, hb1⟩
  rw [hM]
  clear hM
  go_wp2_with fail
  refine (new_nat W.heap.size M M _ hb1.size (by have := HM.out; omega) (.inl rfl)).mono ?_
  rintro r w2 ⟨p, c, rfl, hM2, hb2, hp, hc⟩
  have HH := Lib.hid (Hold.cells hb1 hM2 hb2 hp hc)
  clear hM2 hb2 hp hc hb1 hnb hhz
  obtain ⟨m, hm, hmN⟩ := who_s hlay hw0 hw1
  have Hm := Lib.hid hm
  obtain ⟨Q, q0, hq1, hQ, hQ1, hQ2, hQ3, hQ4⟩ := pmost_le (so := so) (d := 0) t1 t2 s1 s2 (by decide) (by decide)
  have HPM := Lib.hid (fun W' => pmost_any t s so 0 t1 t2 s1 s2 (by decide) (by decide) o0 (by omega) Q hQ W')
  have HQ := Lib.hid hQ
  clear hm hQ hq1 hQ3
  cases a4 with
  | false =>
    have HC0 := Lib.hid (Lv.start M)
    go_wp2_with fail
    go_loopw [15] (fun i wr => ∃ (e : Nat) (v : Value) (C : List Int) (L : List Ev), e ≤ N ∧ i = .int .i64 e ∧ Hid (Hold W wr [tMem W.heap.size p c v C L]) ∧ Hid (Lv C M e) ∧ Hid (L.length = e)) (fun i _ => N - (intOf i).toNat)
    case atStart => exact ⟨0, _, _, _, by omega, rfl, HH, HC0, rfl⟩
    case round =>
      clear HH HC0
      obtain ⟨e, v, C, L, he, rfl, HH, HC, HL⟩ := hrel
      obtain ⟨q0, q1, q2, q3⟩ := HA.out.later (Hold.below HH.out) Hs.out
      go_wp2_with fail
      refine (call_any t s so 0 N _ hlay).mono ?_
      rintro r w5 ⟨rfl, hb5⟩
      replace HH := Lib.hid (Hold.later HH.out hb5)
      clear hb5 q0 q1 q2 q3
      rcases Nat.lt_or_ge e N with heN | heN
      · have heN' : (e : Int) < (N : Int) := by omega
        obtain ⟨q0, q1, q2, q3⟩ := HA.out.later (Hold.below HH.out) Hs.out
        go_wp2_with fail
        refine (pword_at _ _ _ _ _ e _ rfl).mono ?_
        rintro r w6 ⟨rfl, hb6⟩
        replace HH := Lib.hid (Hold.later HH.out hb6)
        clear hb6 q0 q1 q2 q3
        go_wp2_with fail
        refine (pack_at 1 0 1 0 0 9 _ (by decide) (by decide)).mono ?_
        rintro r w7 ⟨rfl, hb7⟩
        replace HH := Lib.hid (Hold.later HH.out hb7)
        clear hb7
        go_wp2_with fail
        refine (store_in W.heap.size _ p c _ _ _ (-1) e _ 9 (Hold.mem0 HH.out) (getD_pu (by have := HC.out.len; have := HM.out; omega)) (Hold.size HH.out) (by have := HL.out; omega) (by decide) (by decide)).mono ?_
        rintro r w8 ⟨rfl, v8, hT8⟩
        have HH8 := Lib.hid (Hold.mem HH.out 0 rfl hT8)
        clear hT8 HH
        go_wp2_with fail
        go_roundw
        case rel => exact ⟨e + 1, v8, _, _, by omega, by go_num, HH8, HC.out.step (by have := HM.out; omega), by show _ = _; rw [List.length_append, HL.out]; rfl⟩
        case measure => first | omega | (simp [intOf]; done) | (simp [intOf]; omega)
      · obtain rfl : N = e := by omega
        have heN' : ¬ (N : Int) < (N : Int) := by omega
        obtain ⟨l0, hl0⟩ : ∃ l0 : Nat, L.length = l0 := ⟨_, rfl⟩
        have hl1 : 1 ≤ l0 ∧ l0 ≤ 16 := by have := HL.out; omega
        have HL0 := Lib.hid hl0
        clear hl0 HL
        obtain ⟨q0, q1, q2, q3⟩ := HA.out.later (Hold.below HH.out) Hs.out
        go_wp2_with fail
        clear heN heN'
        go_loopw [16] (fun i wr => ∃ z : Nat, z = 0 ∧ i = .int .i64 z ∧ Hid (Hold W wr [tMem W.heap.size p c v C L])) (fun i _ => 0)
        case atStart => exact ⟨0, rfl, rfl, HH⟩
        case round =>
          clear HH q0 q1 q2 q3
          obtain ⟨z, rfl, rfl, HH⟩ := hrel
          obtain ⟨q0, q1, q2, q3⟩ := HA.out.later (Hold.below HH.out) Hs.out
          have hz0t : (0 : Int) < t := by omega
          go_wp2_with fail
          refine (count_at W.heap.size _ p c _ _ _ l0 (Hold.mem0 HH.out) HL0.out).mono ?_
          rintro r wr2 ⟨rfl, rfl⟩
          obtain ⟨q0, q1, q2, q3⟩ := HA.out.later (Hold.below HH.out) Hs.out
          go_wp2_with fail
          refine (punew_any _ N m t s so 0 who 0 a5 hlay hw0 hw1 Hm.out (by omega) hmN).mono ?_
          rintro r w3 ⟨b, b1, b2, rfl, hS3, hb3, hbb⟩
          have HH1 : Hid (PuHold W w3 p c v C L b b1 b2 (pu0 t s so 0 who 0 a5 m) []) := PuHold.begun HH.out hb3 hS3 hbb
          have hok : (pu0 t s so 0 who 0 a5 m).Ok N m nb hz C := pu0_ok hlay Hhz.out Hnb.out (by have := HM.out; have := Hnb.out; have := HC.out.len; omega) hw0 hw1 Hm.out (by omega) hmN o0 (by omega) (by decide) (by decide) (by decide) (by decide) z0 z1
          have HS0 : Hid (NoP (pu0 t s so 0 who 0 a5 m) C N m nb hz) := HC.out.no hok Hm.out
          have HR0 : Hid (((0 : Nat) : Int) + (pu0 t s so 0 who 0 a5 m).rem m ≤ (Q : Int)) := by have := HQ.out; show _ ≤ _; rw [pu0_rem]; omega
          have HT0 : Hid ((pu0 t s so 0 who 0 a5 m).t = t) := rfl
          have HE0 : Hid (∃ E : List Ev, L = L ++ E ∧ (∀ e ∈ E, EvN nb t e) ∧ E.length ≤ 0) := ⟨[], by simp, fun e he => by simp at he, Nat.le_refl _⟩
          clear hS3 hb3 hbb q0 q1 q2 q3 HH hok HC
          go_wp2_with fail
          go_loopw [19] (fun i wr => ∃ (q : Nat) (v : Value) (C' : List Int) (L' : List Ev) (k : Pu), q ≤ Q ∧ i = .int .i64 q ∧ Hid (PuHold W wr p c v C' L' b b1 b2 k []) ∧ Hid (NoP k C' N m nb hz) ∧ Hid ((q : Int) + k.rem m ≤ (Q : Int)) ∧ Hid (k.t = t) ∧ Hid (∃ E : List Ev, L' = L ++ E ∧ (∀ e ∈ E, EvN nb t e) ∧ E.length ≤ q)) (fun i _ => 100 - (intOf i).toNat)
          case atStart => exact ⟨0, _, _, _, _, by omega, rfl, HH1, HS0, HR0, HT0, HE0⟩
          case round =>
            clear HH1 HS0 HR0 HT0 HE0
            obtain ⟨q, v', C', L', k, hq, rfl, HH, HS, HR, HT, HE⟩ := hrel
            obtain ⟨q0, q1, q2, q3⟩ := HA.out.later HH.out.below Hs.out
            go_wp2_with fail
            refine (HPM.out _).mono ?_
            rintro r w4 ⟨rfl, hb4⟩
            replace HH := Lib.hid (HH.out.later hb4)
            clear hb4 q0 q1 q2 q3
            have hLn : L'.length ≤ 100 := by obtain ⟨E, rfl, _, h3⟩ := HE.out; rw [List.length_append]; have := HL0.out; omega
            rcases Nat.lt_or_ge q Q with hqQ | hqQ
            · have hst := HH.out.call (now := 0) HS.out.1 (by omega) (by omega)
              have HST := Lib.hid hst
              have hs2 := HS.out.step (now := 0) (by omega) HH.out.mem.nn
              have HS2 := Lib.hid hs2.1
              have HE2 : Hid (∃ E : List Ev, L' ++ k.ev N nb hz C' 0 = L ++ E ∧ (∀ e ∈ E, EvN nb t e) ∧ E.length ≤ q + 1) := by
                obtain ⟨E, h1, h2, h3⟩ := HE.out
                refine ⟨E ++ k.ev N nb hz C' 0, by rw [h1, List.append_assoc], fun e he => ?_, ?_⟩
                · rcases List.mem_append.1 he with he | he
                  · exact h2 e he
                  · rw [← HT.out]
                    exact hs2.2 e he
                · rw [List.length_append]
                  have := Pu.ev_le k N nb hz C' 0
                  omega
              have hnx := HS.out.1.next_ (now := 0) (by omega) HH.out.mem.nn
              have HR2 : Hid (((q + 1 : Nat) : Int) + (k.step m nb hz C' 0).rem m ≤ (Q : Int)) := by
                have h1 := HR.out
                show _ ≤ _
                by_cases hp : k.ph = 0
                · have := hnx.2 hp
                  omega
                · have : (k.step m nb hz C' 0).rem m = 0 := by
                    unfold Pu.rem
                    rw [if_pos (by rw [show k.step m nb hz C' 0 = k from if_pos hp]; exact hp)]
                  omega
              have HT2 : Hid ((k.step m nb hz C' 0).t = t) := (Pu.step_same k m nb hz C' 0).t.trans HT.out
              clear hst hs2 hnx
              go_wp2_with fail
              refine HST.out.mono ?_
              rintro r w5 ⟨rfl, v5, hH5⟩
              have HH5 := Lib.hid hH5
              clear hH5 HST
              go_wp2_with fail
              go_roundw
              case rel => exact ⟨q + 1, v5, _, _, _, by omega, by go_num, HH5, HS2, HR2, HT2, HE2⟩
              case measure => first | omega | (simp [intOf]; done) | (simp [intOf]; omega)
            · obtain rfl : q = Q := by omega
              have hp0 : k.ph ≠ 0 := fun h0 => by
                have := Pu.rem_pos HS.out.1 h0
                have := HR.out
                omega
              have hp2 := HS.out.done hp0
              have hsl : (if k.ph = 1 then k.cl.slot else -1) = -1 := if_neg (by omega)
              have HP2 := Lib.hid hp2
              have HSL := Lib.hid hsl
              obtain ⟨E, hLE, hEv, hEn⟩ := HE.out
              obtain ⟨n, hn⟩ : ∃ n : Nat, L'.length = n := ⟨_, rfl⟩
              have hnE : n = l0 + E.length := by rw [← hn, hLE, List.length_append, HL0.out]
              have hne : L' ≠ [] := fun h => by rw [h] at hn; simp at hn; omega
              have HLE := Lib.hid hLE
              have HEV := Lib.hid hEv
              have HNE := Lib.hid hne
              have Hn := Lib.hid hn
              clear hp0 hp2 hsl hLE hEv hne HS HR HT HE
              go_wp2_with fail
              refine (log_any W.heap.size _ p c _ _ _ HH.out.mem (by omega)).mono ?_
              rintro r w5 ⟨lv, rfl, hrow, hb5⟩
              replace HH := Lib.hid (HH.out.later hb5)
              clear hb5
              obtain ⟨A, cap, rfl⟩ := own_shape hrow
              obtain ⟨gb, go, rfl, hgl, hgc⟩ := AtE.row hrow HNE.out
              have hcap : n ≤ cap := by
                rcases hrow.2 with ⟨_, h0⟩ | ⟨g, cap', cur, hv, _, _, hnc, _⟩
                · exact absurd h0 (by have := Hn.out; omega)
                · cases hv
                  rw [← Hn.out]
                  exact hnc
              have HGC := Lib.hid hgc
              rw [Hn.out]
              clear hrow hgc hn
              obtain ⟨en, hen⟩ : ∃ en : Nat, E.length = en := ⟨_, rfl⟩
              rw [hen] at hnE hEn
              subst hnE
              have HEN := Lib.hid hen
              clear hen
              have HEE : Hid (∀ j, j < en → ∃ e : Ev, L'[l0 + j]? = some e ∧ EvN nb t e) := fun j hj => by
                have h1 : j < E.length := by rw [HEN.out]; exact hj
                refine ⟨E[j], ?_, HEV.out _ (List.getElem_mem h1)⟩
                rw [HLE.out, List.getElem?_append_right (by rw [HL0.out]; omega), HL0.out, Nat.add_sub_cancel_left]
                exact List.getElem?_eq_getElem h1
              have hen100 : en ≤ 100 := by omega
              have hl0n : (l0 : Int) ≤ ((l0 + en : Nat) : Int) := by omega
              by_cases hcl : cap = l0
              · obtain rfl : en = 0 := by omega
                subst hcl
                go_wp2_with fail
                go_loopw [92] (fun i wr => ∃ z : Nat, z = 0 ∧ i = .int .i64 z ∧ Hid (PuHold W wr p c v' C' L' b b1 b2 k [])) (fun i _ => 0)
                case atStart => exact ⟨0, rfl, rfl, HH⟩
                case round =>
                  clear HH
                  obtain ⟨z, rfl, rfl, HH⟩ := hrel
                  go_wp2_with fail
                  refine (puphase_at 2 HP2.out HH.out.pu).mono ?_
                  rintro r wr2 ⟨rfl, rfl⟩
                  go_wp2_with fail
                  refine (puslot_at (-1) HSL.out HH.out.pu).mono ?_
                  rintro r wr2 ⟨rfl, rfl⟩
                  go_wp2_with fail
                  go_ret
                  exact ⟨rfl, below_step' HB.out HH.out.below HB.out.size⟩
              · have HW5 := Lib.hid (Below.refl w5.heap.size w5)
                go_wp2_with fail
                go_loopw [92] (fun i wr => ∃ j : Nat, j ≤ en ∧ i = .int .i64 j ∧ Hid (PuHold W wr p c v' C' L' b b1 b2 k []) ∧ Hid (Below w5.heap.size w5 wr)) (fun i _ => 200 - (intOf i).toNat)
                case atStart => exact ⟨0, by omega, rfl, HH, HW5⟩
                case round =>
                  clear HH HW5
                  obtain ⟨j, hj, rfl, HH, HW5⟩ := hrel
                  rcases Nat.lt_or_ge j en with hje | hje
                  · obtain ⟨e, hge, hev⟩ := HEE.out j hje
                    obtain ⟨x0, x1, x2, x3, x4, x5⟩ := HGC.out _ e hge
                    have hje' : (j : Int) < (en : Int) := by omega
                    replace x0 := (HW5.out.cell (p := ⟨gb, _, none⟩) hgl).trans x0
                    replace x1 := (HW5.out.cell (p := ⟨gb, _, none⟩) hgl).trans x1
                    replace x2 := (HW5.out.cell (p := ⟨gb, _, none⟩) hgl).trans x2
                    replace x3 := (HW5.out.cell (p := ⟨gb, _, none⟩) hgl).trans x3
                    replace x4 := (HW5.out.cell (p := ⟨gb, _, none⟩) hgl).trans x4
                    replace x5 := (HW5.out.cell (p := ⟨gb, _, none⟩) hgl).trans x5
                    rw [Nat.add_mul, ← Nat.add_assoc] at x0 x1 x2 x3 x4 x5
                    obtain ⟨kk, kx, hkk, hk4⟩ := kind_total t N e.cell (by omega) (by omega)
                    have HKK := Lib.hid hkk
                    have HK4 : Hid (e.op = 0 ∨ kk = 4) := by
                      rcases hev with h | ⟨h1, h2⟩
                      · exact .inl h
                      · exact .inr (hk4 (by have := Hnb.out; omega) (by have := Hnb.out; omega))
                    obtain ⟨ewho, eop, ecell, eold, enew, eok⟩ := e
                    simp only at x0 x1 x2 x3 x4 x5 HKK HK4
                    have hbx := below_new (Below.refl wr.heap.size wr) (.cells #[.int .i64 ewho, .int .i64 eop, .int .i64 ecell, .int .u64 eold, .int .u64 enew, .bool eok] 62)
                    have HHx := Lib.hid (HH.out.later hbx)
                    have HW6 := Lib.hid (below_step' HW5.out hbx HW5.out.size)
                    obtain ⟨q0, q1, q2, q3⟩ := HA.out.later HHx.out.below Hs.out
                    have HX2 : Hid ((wr.alloc (.cells #[.int .i64 ewho, .int .i64 eop, .int .i64 ecell, .int .u64 eold, .int .u64 enew, .bool eok] 62)).cell? ⟨wr.heap.size, 1, none⟩ = some (.int .i64 eop)) := World.cell?_alloc_new wr _ _ 1
                    clear hkk hk4 hev hge hbx
                    go_wp2_with fail
                    generalize wr.alloc (.cells #[.int .i64 ewho, .int .i64 eop, .int .i64 ecell, .int .u64 eold, .int .u64 enew, .bool eok] 62) = wx at HHx HW6 HX2 q0 q1 q2 q3 ⊢
                    generalize wr.heap.size = bx at HX2 ⊢
                    clear x0 x1 x2 x3 x4 x5 HH HW5
                    refine (ckind_any t s so 0 N ecell kk kx _ hlay HKK.out).mono ?_
                    rintro r w6 ⟨rfl, hb6⟩
                    replace HHx := Lib.hid (HHx.out.later hb6)
                    have HX3 := (hb6.cell (p := ⟨bx, 1, none⟩) (World.block_lt_of_cell? _ _ HX2.out)).trans HX2.out
                    replace HW6 := Lib.hid (below_step' HW6.out hb6 HW6.out.size)
                    clear hb6 q0 q1 q2 q3
                    by_cases hop : eop = 0
                    · have qop : (eop != 0) = false := by simp [hop]
                      clear hop
                      go_wp2_with fail
                      go_roundw
                      case rel => exact ⟨j + 1, by omega, by go_num, HHx, HW6⟩
                      case measure => first | omega | (simp [intOf]; done) | (simp [intOf]; omega)
                    · obtain rfl : kk = 4 := HK4.out.resolve_left hop
                      have qop : (eop != 0) = true := by simp [hop]
                      clear hop
                      go_wp2_with fail
                      go_roundw
                      case rel => exact ⟨j + 1, by omega, by go_num, HHx, HW6⟩
                      case measure => first | omega | (simp [intOf]; done) | (simp [intOf]; omega)
                  · have hje' : ¬ (j : Int) < (en : Int) := by omega
                    go_wp2_with fail
                    refine (puphase_at 2 HP2.out HH.out.pu).mono ?_
                    rintro r wr2 ⟨rfl, rfl⟩
                    go_wp2_with fail
                    refine (puslot_at (-1) HSL.out HH.out.pu).mono ?_
                    rintro r wr2 ⟨rfl, rfl⟩
                    go_wp2_with fail
                    go_ret
                    exact ⟨rfl, below_step' HB.out HH.out.below HB.out.size⟩
  | true =>
    have HC0 := Lib.hid (Tp.start nb M)
    go_wp2_with fail
    go_loopw [15] (fun i wr => ∃ z : Nat, z = 0 ∧ i = .int .i64 z ∧ Hid (Hold W wr [tMem W.heap.size p c (.slice none 0 0) (List.replicate M 0) []])) (fun i _ => 0)
    case atStart => exact ⟨0, rfl, rfl, HH⟩
    case round =>
      clear HH
      obtain ⟨z, rfl, rfl, HH⟩ := hrel
      obtain ⟨q0, q1, q2, q3⟩ := HA.out.later (Hold.below HH.out) Hs.out
      go_wp2_with fail
      refine (call_any t s so 0 N _ hlay).mono ?_
      rintro r w5 ⟨rfl, hb5⟩
      replace HH := Lib.hid (Hold.later HH.out hb5)
      clear hb5 q0 q1 q2 q3
      have hNi : (0 : Int) < (N : Int) := by omega
      go_wp2_with fail
      go_loopw [16] (fun i wr => ∃ (e : Nat) (v : Value) (C : List Int) (L : List Ev), (e : Int) ≤ t ∧ i = .int .i64 e ∧ Hid (Hold W wr [tMem W.heap.size p c v C L]) ∧ Hid (Tp C nb M e) ∧ Hid (L.length = e)) (fun i _ => t.toNat - (intOf i).toNat)
      case atStart => exact ⟨0, _, _, _, by omega, rfl, HH, HC0, rfl⟩
      case round =>
        clear HH HC0
        obtain ⟨e, v, C, L, he, rfl, HH, HC, HL⟩ := hrel
        obtain ⟨q0, q1, q2, q3⟩ := HA.out.later (Hold.below HH.out) Hs.out
        rcases Int.lt_or_le (e : Int) t with heN | heN
        · go_wp2_with fail
          refine (cnum_at t s so 0 N nb e _ hlay Hnb.out (by omega)).mono ?_
          rintro r w6 ⟨rfl, hb6⟩
          replace HH := Lib.hid (Hold.later HH.out hb6)
          clear hb6 q0 q1 q2 q3
          go_wp2_with fail
          refine (store_in W.heap.size _ p c _ _ _ (-1) (nb + e) _ 16777215 (Hold.mem0 HH.out) (getD_pu (by have := HC.out.len; have := HM.out; have := Hnb.out; omega)) (Hold.size HH.out) (by have := HL.out; omega) (by decide) (by decide)).mono ?_
          rintro r w8 ⟨rfl, v8, hT8⟩
          have HH8 := Lib.hid (Hold.mem HH.out 0 rfl hT8)
          clear hT8 HH
          go_wp2_with fail
          go_roundw
          case rel => exact ⟨e + 1, v8, _, _, by omega, by go_num, HH8, HC.out.step (by have := HM.out; have := Hnb.out; omega), by show _ = _; rw [List.length_append, HL.out]; rfl⟩
          case measure => first | omega | (simp [intOf]; done) | (simp [intOf]; omega)
        · have heN' : ¬ (e : Int) < t := by omega
          have hte : (e : Int) = t := by omega
          obtain ⟨l0, hl0⟩ : ∃ l0 : Nat, L.length = l0 := ⟨_, rfl⟩
          have hl1 : 1 ≤ l0 ∧ l0 ≤ 16 := by have := HL.out; omega
          have HL0 := Lib.hid hl0
          have HTE := Lib.hid hte
          clear hl0 HL hte
          go_wp2_with fail
          refine (count_at W.heap.size _ p c _ _ _ l0 (Hold.mem0 HH.out) HL0.out).mono ?_
          rintro r wr2 ⟨rfl, rfl⟩
          obtain ⟨q0, q1, q2, q3⟩ := HA.out.later (Hold.below HH.out) Hs.out
          go_wp2_with fail
          refine (punew_any _ N m t s so 0 who 0 a5 hlay hw0 hw1 Hm.out (by omega) hmN).mono ?_
          rintro r w3 ⟨b, b1, b2, rfl, hS3, hb3, hbb⟩
          have HH1 : Hid (PuHold W w3 p c v C L b b1 b2 (pu0 t s so 0 who 0 a5 m) []) := PuHold.begun HH.out hb3 hS3 hbb
          have hok : (pu0 t s so 0 who 0 a5 m).Ok N m nb hz C := pu0_ok hlay Hhz.out Hnb.out (by have := HM.out; have := Hnb.out; have := HC.out.len; omega) hw0 hw1 Hm.out (by omega) hmN o0 (by omega) (by decide) (by decide) (by decide) (by decide) z0 z1
          have HS0 : Hid (NoP (pu0 t s so 0 who 0 a5 m) C N m nb hz) := HC.out.no HTE.out hok (by omega)
          have HR0 : Hid (((0 : Nat) : Int) + (pu0 t s so 0 who 0 a5 m).rem m ≤ (Q : Int)) := by have := HQ.out; show _ ≤ _; rw [pu0_rem]; omega
          have HT0 : Hid ((pu0 t s so 0 who 0 a5 m).t = t) := rfl
          have HE0 : Hid (∃ E : List Ev, L = L ++ E ∧ (∀ e ∈ E, EvN nb t e) ∧ E.length ≤ 0) := ⟨[], by simp, fun e he => by simp at he, Nat.le_refl _⟩
          clear hS3 hb3 hbb q0 q1 q2 q3 HH hok HC
          go_wp2_with fail
          go_loopw [19] (fun i wr => ∃ (q : Nat) (v : Value) (C' : List Int) (L' : List Ev) (k : Pu), q ≤ Q ∧ i = .int .i64 q ∧ Hid (PuHold W wr p c v C' L' b b1 b2 k []) ∧ Hid (NoP k C' N m nb hz) ∧ Hid ((q : Int) + k.rem m ≤ (Q : Int)) ∧ Hid (k.t = t) ∧ Hid (∃ E : List Ev, L' = L ++ E ∧ (∀ e ∈ E, EvN nb t e) ∧ E.length ≤ q)) (fun i _ => 100 - (intOf i).toNat)
          case atStart => exact ⟨0, _, _, _, _, by omega, rfl, HH1, HS0, HR0, HT0, HE0⟩
          case round =>
            clear HH1 HS0 HR0 HT0 HE0
            obtain ⟨q, v', C', L', k, hq, rfl, HH, HS, HR, HT, HE⟩ := hrel
            obtain ⟨q0, q1, q2, q3⟩ := HA.out.later HH.out.below Hs.out
            go_wp2_with fail
            refine (HPM.out _).mono ?_
            rintro r w4 ⟨rfl, hb4⟩
            replace HH := Lib.hid (HH.out.later hb4)
            clear hb4 q0 q1 q2 q3
            have hLn : L'.length ≤ 100 := by obtain ⟨E, rfl, _, h3⟩ := HE.out; rw [List.length_append]; have := HL0.out; omega
            rcases Nat.lt_or_ge q Q with hqQ | hqQ
            · have hst := HH.out.call (now := 0) HS.out.1 (by omega) (by omega)
              have HST := Lib.hid hst
              have hs2 := HS.out.step (now := 0) (by omega) HH.out.mem.nn
              have HS2 := Lib.hid hs2.1
              have HE2 : Hid (∃ E : List Ev, L' ++ k.ev N nb hz C' 0 = L ++ E ∧ (∀ e ∈ E, EvN nb t e) ∧ E.length ≤ q + 1) := by
                obtain ⟨E, h1, h2, h3⟩ := HE.out
                refine ⟨E ++ k.ev N nb hz C' 0, by rw [h1, List.append_assoc], fun e he => ?_, ?_⟩
                · rcases List.mem_append.1 he with he | he
                  · exact h2 e he
                  · rw [← HT.out]
                    exact hs2.2 e he
                · rw [List.length_append]
                  have := Pu.ev_le k N nb hz C' 0
                  omega
              have hnx := HS.out.1.next_ (now := 0) (by omega) HH.out.mem.nn
              have HR2 : Hid (((q + 1 : Nat) : Int) + (k.step m nb hz C' 0).rem m ≤ (Q : Int)) := by
                have h1 := HR.out
                show _ ≤ _
                by_cases hp : k.ph = 0
                · have := hnx.2 hp
                  omega
                · have : (k.step m nb hz C' 0).rem m = 0 := by
                    unfold Pu.rem
                    rw [if_pos (by rw [show k.step m nb hz C' 0 = k from if_pos hp]; exact hp)]
                  omega
              have HT2 : Hid ((k.step m nb hz C' 0).t = t) := (Pu.step_same k m nb hz C' 0).t.trans HT.out
              clear hst hs2 hnx
              go_wp2_with fail
              refine HST.out.mono ?_
              rintro r w5 ⟨rfl, v5, hH5⟩
              have HH5 := Lib.hid hH5
              clear hH5 HST
              go_wp2_with fail
              go_roundw
              case rel => exact ⟨q + 1, v5, _, _, _, by omega, by go_num, HH5, HS2, HR2, HT2, HE2⟩
              case measure => first | omega | (simp [intOf]; done) | (simp [intOf]; omega)
            · obtain rfl : q = Q := by omega
              have hp0 : k.ph ≠ 0 := fun h0 => by
                have := Pu.rem_pos HS.out.1 h0
                have := HR.out
                omega
              have hp2 := HS.out.done hp0
              have hsl : (if k.ph = 1 then k.cl.slot else -1) = -1 := if_neg (by omega)
              have HP2 := Lib.hid hp2
              have HSL := Lib.hid hsl
              obtain ⟨E, hLE, hEv, hEn⟩ := HE.out
              obtain ⟨n, hn⟩ : ∃ n : Nat, L'.length = n := ⟨_, rfl⟩
              have hnE : n = l0 + E.length := by rw [← hn, hLE, List.length_append, HL0.out]
              have hne : L' ≠ [] := fun h => by rw [h] at hn; simp at hn; omega
              have HLE := Lib.hid hLE
              have HEV := Lib.hid hEv
              have HNE := Lib.hid hne
              have Hn := Lib.hid hn
              clear hp0 hp2 hsl hLE hEv hne HS HR HT HE
              go_wp2_with fail
              refine (log_any W.heap.size _ p c _ _ _ HH.out.mem (by omega)).mono ?_
              rintro r w5 ⟨lv, rfl, hrow, hb5⟩
              replace HH := Lib.hid (HH.out.later hb5)
              clear hb5
              obtain ⟨A, cap, rfl⟩ := own_shape hrow
              obtain ⟨gb, go, rfl, hgl, hgc⟩ := AtE.row hrow HNE.out
              have hcap : n ≤ cap := by
                rcases hrow.2 with ⟨_, h0⟩ | ⟨g, cap', cur, hv, _, _, hnc, _⟩
                · exact absurd h0 (by have := Hn.out; omega)
                · cases hv
                  rw [← Hn.out]
                  exact hnc
              have HGC := Lib.hid hgc
              rw [Hn.out]
              clear hrow hgc hn
              obtain ⟨en, hen⟩ : ∃ en : Nat, E.length = en := ⟨_, rfl⟩
              rw [hen] at hnE hEn
              subst hnE
              have HEN := Lib.hid hen
              clear hen
              have HEE : Hid (∀ j, j < en → ∃ e : Ev, L'[l0 + j]? = some e ∧ EvN nb t e) := fun j hj => by
                have h1 : j < E.length := by rw [HEN.out]; exact hj
                refine ⟨E[j], ?_, HEV.out _ (List.getElem_mem h1)⟩
                rw [HLE.out, List.getElem?_append_right (by rw [HL0.out]; omega), HL0.out, Nat.add_sub_cancel_left]
                exact List.getElem?_eq_getElem h1
              have hen100 : en ≤ 100 := by omega
              have hl0n : (l0 : Int) ≤ ((l0 + en : Nat) : Int) := by omega
              by_cases hcl : cap = l0
              · obtain rfl : en = 0 := by omega
                subst hcl
                go_wp2_with fail
                go_loopw [92] (fun i wr => ∃ z : Nat, z = 0 ∧ i = .int .i64 z ∧ Hid (PuHold W wr p c v' C' L' b b1 b2 k [])) (fun i _ => 0)
                case atStart => exact ⟨0, rfl, rfl, HH⟩
                case round =>
                  clear HH
                  obtain ⟨z, rfl, rfl, HH⟩ := hrel
                  go_wp2_with fail
                  refine (puphase_at 2 HP2.out HH.out.pu).mono ?_
                  rintro r wr2 ⟨rfl, rfl⟩
                  go_wp2_with fail
                  refine (puslot_at (-1) HSL.out HH.out.pu).mono ?_
                  rintro r wr2 ⟨rfl, rfl⟩
                  go_wp2_with fail
                  go_ret
                  exact ⟨rfl, below_step' HB.out HH.out.below HB.out.size⟩
              · have HW5 := Lib.hid (Below.refl w5.heap.size w5)
                go_wp2_with fail
                go_loopw [92] (fun i wr => ∃ j : Nat, j ≤ en ∧ i = .int .i64 j ∧ Hid (PuHold W wr p c v' C' L' b b1 b2 k []) ∧ Hid (Below w5.heap.size w5 wr)) (fun i _ => 200 - (intOf i).toNat)
                case atStart => exact ⟨0, by omega, rfl, HH, HW5⟩
                case round =>
                  clear HH HW5
                  obtain ⟨j, hj, rfl, HH, HW5⟩ := hrel
                  rcases Nat.lt_or_ge j en with hje | hje
                  · obtain ⟨e, hge, hev⟩ := HEE.out j hje
                    obtain ⟨x0, x1, x2, x3, x4, x5⟩ := HGC.out _ e hge
                    have hje' : (j : Int) < (en : Int) := by omega
                    replace x0 := (HW5.out.cell (p := ⟨gb, _, none⟩) hgl).trans x0
                    replace x1 := (HW5.out.cell (p := ⟨gb, _, none⟩) hgl).trans x1
                    replace x2 := (HW5.out.cell (p := ⟨gb, _, none⟩) hgl).trans x2
                    replace x3 := (HW5.out.cell (p := ⟨gb, _, none⟩) hgl).trans x3
                    replace x4 := (HW5.out.cell (p := ⟨gb, _, none⟩) hgl).trans x4
                    replace x5 := (HW5.out.cell (p := ⟨gb, _, none⟩) hgl).trans x5
                    rw [Nat.add_mul, ← Nat.add_assoc] at x0 x1 x2 x3 x4 x5
                    obtain ⟨kk, kx, hkk, hk4⟩ := kind_total t N e.cell (by omega) (by omega)
                    have HKK := Lib.hid hkk
                    have HK4 : Hid (e.op = 0 ∨ kk = 4) := by
                      rcases hev with h | ⟨h1, h2⟩
                      · exact .inl h
                      · exact .inr (hk4 (by have := Hnb.out; omega) (by have := Hnb.out; omega))
                    obtain ⟨ewho, eop, ecell, eold, enew, eok⟩ := e
                    simp only at x0 x1 x2 x3 x4 x5 HKK HK4
                    have hbx := below_new (Below.refl wr.heap.size wr) (.cells #[.int .i64 ewho, .int .i64 eop, .int .i64 ecell, .int .u64 eold, .int .u64 enew, .bool eok] 62)
                    have HHx := Lib.hid (HH.out.later hbx)
                    have HW6 := Lib.hid (below_step' HW5.out hbx HW5.out.size)
                    obtain ⟨q0, q1, q2, q3⟩ := HA.out.later HHx.out.below Hs.out
                    have HX2 : Hid ((wr.alloc (.cells #[.int .i64 ewho, .int .i64 eop, .int .i64 ecell, .int .u64 eold, .int .u64 enew, .bool eok] 62)).cell? ⟨wr.heap.size, 1, none⟩ = some (.int .i64 eop)) := World.cell?_alloc_new wr _ _ 1
                    clear hkk hk4 hev hge hbx
                    go_wp2_with fail
                    generalize wr.alloc (.cells #[.int .i64 ewho, .int .i64 eop, .int .i64 ecell, .int .u64 eold, .int .u64 enew, .bool eok] 62) = wx at HHx HW6 HX2 q0 q1 q2 q3 ⊢
                    generalize wr.heap.size = bx at HX2 ⊢
                    clear x0 x1 x2 x3 x4 x5 HH HW5
                    refine (ckind_any t s so 0 N ecell kk kx _ hlay HKK.out).mono ?_
                    rintro r w6 ⟨rfl, hb6⟩
                    replace HHx := Lib.hid (HHx.out.later hb6)
                    have HX3 := (hb6.cell (p := ⟨bx, 1, none⟩) (World.block_lt_of_cell? _ _ HX2.out)).trans HX2.out
                    replace HW6 := Lib.hid (below_step' HW6.out hb6 HW6.out.size)
                    clear hb6 q0 q1 q2 q3
                    by_cases hop : eop = 0
                    · have qop : (eop != 0) = false := by simp [hop]
                      clear hop
                      go_wp2_with fail
                      go_roundw
                      case rel => exact ⟨j + 1, by omega, by go_num, HHx, HW6⟩
                      case measure => first | omega | (simp [intOf]; done) | (simp [intOf]; omega)
                    · obtain rfl : kk = 4 := HK4.out.resolve_left hop
                      have qop : (eop != 0) = true := by simp [hop]
                      clear hop
                      go_wp2_with fail
                      go_roundw
                      case rel => exact ⟨j + 1, by omega, by go_num, HHx, HW6⟩
                      case measure => first | omega | (simp [intOf]; done) | (simp [intOf]; omega)
                  · have hje' : ¬ (j : Int) < (en : Int) := by omega
                    go_wp2_with fail
                    refine (puphase_at 2 HP2.out HH.out.pu).mono ?_
                    rintro r wr2 ⟨rfl, rfl⟩
                    go_wp2_with fail
                    refine (puslot_at (-1) HSL.out HH.out.pu).mono ?_
                    rintro r wr2 ⟨rfl, rfl⟩
                    go_wp2_with fail
                    go_ret
                    exact ⟨rfl, below_step' HB.out HH.out.below HB.out.size⟩

end Go.Proofs.Ytoogdfjlodchhaa
