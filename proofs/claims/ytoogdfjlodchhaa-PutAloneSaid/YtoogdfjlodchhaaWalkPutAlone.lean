/-
  PutAlone answers true for all lists and numbers, and leaves all memory that was there as it was. No condition.
-/
import Derived.Test.YtoogdfjlodchhaaPutLaw
import Derived.Test.YtoogdfjlodchhaaPutAlonePure
import Derived.Test.YtoogdfjlodchhaaWalkPutTurn
import Derived.Test.YtoogdfjlodchhaaClaimMore
import Derived.Test.YtoogdfjlodchhaaRegionT
import Derived.Deep.DeepCutAuto
namespace Go.Proofs.Ytoogdfjlodchhaa
open Go.RowKit
set_option linter.unusedVariables false

set_option maxRecDepth 100000 in
set_option maxHeartbeats 8000000 in
theorem walk_PutAlone (a0 : Int) (a1 : Int) (a2 : Int) (a3 : Int) (a4 : Int) (a5 : Option Addr) (len5 cap5 : Nat) (w : World) (w0 : (Lit.int .i64 a0).wf = true) (w1 : (Lit.int .i64 a1).wf = true) (w2 : (Lit.int .i64 a2).wf = true) (w3 : (Lit.int .i64 a3).wf = true) (w4 : (Lit.int .i64 a4).wf = true) (w5 : IsRows w [.inl .u64] a5 len5 cap5) :
    Calls Try.prog 4 #[.int .i64 a0, .int .i64 a1, .int .i64 a2, .int .i64 a3, .int .i64 a4, .slice a5 len5 cap5] w fun e w' => e = .returned (.bool true) ∧ Below w.heap.size w w' := by
  clear w0 w1 w2 w3 w4
  rcases Nat.lt_or_ge 20 len5 with hbig | hs5
  · have hbig' : (20 : Int) < (len5 : Int) := by omega
    clear w5
    go_enter Try.func4, Try.ntmps4
    go_wp2_with fail
    refine (head10_any _).mono ?_
    rintro e w1 ⟨rfl, hb1⟩
    go_wp2_with fail
    go_ret
    exact ⟨rfl, hb1⟩
  have p5 : decide ((20 : Int) < (len5 : Int)) = false := decide_eq_false (by omega)
  obtain ⟨ub, uff, Y, hY⟩ := rows_us w5
  have HY : Hid (IsUs w a5 len5 cap5 ub uff Y) := hY
  obtain ⟨uw, huw, lw, gw⟩ : ∃ u, bits .and .i64 a4 65535 = u ∧ 0 ≤ u ∧ u ≤ 65535 := ⟨_, and_ffff a4, by omega, by omega⟩
  clear w5 hY
  go_enter Try.func4, Try.ntmps4
  go_wp2_with fail
  refine (head10_any _).mono ?_
  rintro e w1 ⟨rfl, hb1⟩
  go_wp2_with fail
  refine (conf4_any _ _ _ _ _).mono ?_
  rintro e w2 ⟨t, s, so, d, rfl, t1, t2, s1, s2, o0, o4, d0, d3, hb2⟩
  have ht0 : (t == 0) = false := by simp; omega
  have hB2 := Lib.hid (below_step hb1 hb2)
  clear hb1 hb2
  obtain ⟨N, hNe, hlay, hN1, hN2⟩ := lay44 t1 t2 s1 s2
  have hn0 : ¬ N = 0 := by omega
  clear hNe
  go_wp2_with fail
  have hw0 := Int.emod_nonneg uw (show t ≠ 0 by omega)
  have hw1 := Int.emod_lt_of_pos uw (show 0 < t by omega)
  generalize uw % t = who at hw0 hw1 ⊢
  clear huw lw gw
  have hA := AtC.made w2 t s so d
  have hB3 := below_new (Below.refl w2.heap.size w2) (.cells #[.int .i64 t, .int .i64 s, .int .i64 so, .int .i64 d] 29)
  have hs3 : w2.heap.size < (w2.alloc (.cells #[.int .i64 t, .int .i64 s, .int .i64 so, .int .i64 d] 29)).heap.size := by simp
  have HA := Lib.hid hA
  have HB := Lib.hid (below_step hB2.out hB3)
  have Hs := Lib.hid hs3
  clear hA hB3 hs3 hB2
  generalize w2.alloc (.cells #[.int .i64 t, .int .i64 s, .int .i64 so, .int .i64 d] 29) = W at HA HB Hs ⊢
  generalize w2.heap.size = cb at HA Hs ⊢
  clear w2 w1
  obtain ⟨M, hM⟩ : ∃ M : Nat, 2 * (N : Int) + 2 * t = (M : Int) := ⟨(2 * (N : Int) + 2 * t).toNat, by omega⟩
  obtain ⟨nb, hnb⟩ : ∃ nb : Nat, (nb : Int) = 2 * N + t := ⟨(2 * N + t).toNat, by omega⟩
  obtain ⟨hz, hhz⟩ : ∃ hz : Nat, (hz : Int) = 2 * N := ⟨2 * N, by omega⟩
  have HM := Lib.hid hM
  have Hnb := Lib.hid hnb
  have Hhz := Lib.hid hhz
  refine (ccells_any t s so d N _ hlay).mono ?_
  rintro r w1 ⟨rfl, hb1⟩
  rw [hM]
  clear hM
  go_wp2_with fail
  refine (new_nat W.heap.size M M _ hb1.size (by have := HM.out; omega) (.inl rfl)).mono ?_
  rintro r w2 ⟨p, c, rfl, hM2, hb2, hp, hc⟩
  have HH := Lib.hid (Hold.cells hb1 hM2 hb2 hp hc)
  clear hM2 hb2 hp hc hb1 hnb hhz
  obtain ⟨m, hm, hmN⟩ := who_s hlay hw0 hw1
  have Hm := Lib.hid hm
  obtain ⟨Q, q0, hq1, hQ, hQ1, hQ2, hQ3, hQ4⟩ := pmost_le (so := so) t1 t2 s1 s2 d0 d3
  have HPM := Lib.hid (fun W' => pmost_any t s so d t1 t2 s1 s2 d0 d3 o0 o4 Q hQ W')
  have HQ := Lib.hid hQ
  have hbx := below_new (Below.refl w2.heap.size w2) (.cells #[.int .i64 (-1), .int .i64 (-1)] 52)
  have HH0 : Hid (Hold W (w2.alloc (.cells #[.int .i64 (-1), .int .i64 (-1)] 52)) [tMem W.heap.size p c (.slice none 0 0) (List.replicate M 0) [], tObj W.heap.size w2.heap.size [.int .i64 (-1), .int .i64 (-1)]]) := Hold.more HH.out hbx (tObj_ok _ _ _) ⟨IsObj.made w2 [.int .i64 (-1), .int .i64 (-1)] 52, HH.out.size⟩ (fun q hq => by cases hq; exact Nat.le_refl _)
  have HO0 : Hid (Own1 (List.replicate M 0) t s so d who N m nb 0 ((0 : Nat) : Int) (-1)) := ⟨by rw [List.length_replicate]; have := HM.out; have := Hnb.out; omega, fun q h => by omega, fun q _ _ => zeros _ _, fun q _ => by rw [zeros]; exact ⟨Int.le_refl _, Int.le_refl _⟩, Bel.begun t s so d who (numC_nn (fun j => by rw [zeros]; exact Int.le_refl _)) (Int.le_refl _)⟩
  clear hbx HH hm hQ hq1 hQ3
  go_wp2_with fail
  generalize w2.alloc (.cells #[.int .i64 (-1), .int .i64 (-1)] 52) = wl0 at HH0 ⊢
  generalize w2.heap.size = lb at HH0 ⊢
  clear w2 w1
  go_loopw [15, 43] (fun nw i wr => ∃ (e now : Nat) (v : Value) (C : List Int) (L : List Ev) (lo hi : Int), e ≤ len5 ∧ now ≤ Q * e ∧ nw = .int .i64 now ∧ i = .int .i64 e ∧ Hid (Hold W wr [tMem W.heap.size p c v C L, tObj W.heap.size lb [.int .i64 lo, .int .i64 hi]]) ∧ Hid (Own1 C t s so d who N m nb e now hi) ∧ Hid (L.length ≤ 100 * e)) (fun _ i _ => 100 - (intOf i).toNat)
  case atStart => exact ⟨0, 0, _, _, _, _, _, by omega, by omega, rfl, rfl, HH0, HO0, Nat.zero_le _⟩
  case round =>
    clear HH0 HO0
    obtain ⟨e, now, v, C, L, lo0, hi0, he, hnow, rfl, rfl, HH, HO, HL⟩ := hrel
    have hnow2 : now ≤ 560 := by have := Nat.mul_le_mul (show Q ≤ 27 by omega) (show e ≤ 20 by omega); omega
    rcases Nat.lt_or_ge e len5 with hlt | hge
    · obtain ⟨rfl, hcap, htb, hx, V0, V1⟩ := HY.out e hlt
      have hlt' : (e : Int) < (len5 : Int) := by omega
      have hwW : Below w.heap.size w wr := below_step' HB.out (Hold.below HH.out) HB.out.size
      replace hx := (hwW.cell (p := ⟨ub, _, none⟩) htb).trans hx
      obtain ⟨V, hV⟩ : ∃ V, Y e = V := ⟨_, rfl⟩
      rw [hV] at hx V0 V1
      clear hV hwW
      obtain ⟨q0, q1, q2, q3⟩ := HA.out.later (Hold.below HH.out) Hs.out
      go_wp2_with fail
      refine (punew_any _ N m t s so d who 1 V hlay hw0 hw1 Hm.out (by omega) hmN).mono ?_
      rintro r w3 ⟨b, b1, b2, rfl, hS3, hb3, hbb⟩
      have HH1 : Hid (PuHold W w3 p c v C L b b1 b2 (pu0 t s so d who 1 V m) [tObj W.heap.size lb [.int .i64 lo0, .int .i64 hi0]]) := Hold.swap (Hold.more HH.out hb3 (tPu_ok _ _ _ _ _) ⟨hS3, fun i hi => Nat.le_trans (Hold.size HH.out) (hbb i hi)⟩ hbb)
      have hok : (pu0 t s so d who 1 V m).Ok N m nb hz C := pu0_ok hlay Hhz.out Hnb.out HO.out.len hw0 hw1 Hm.out (by omega) hmN o0 o4 d0 (by omega) (by decide) (by decide) V0 V1
      have HS0 : Hid (OneP (pu0 t s so d who 1 V m) C C t s N m nb hz (m + e) (now : Int) (now : Int) hi0) := HO.out.one hok Hm.out (by omega)
      have HR0 : Hid (((0 : Nat) : Int) + (pu0 t s so d who 1 V m).rem m ≤ (Q : Int)) := by have := HQ.out; show _ ≤ _; rw [pu0_rem]; omega
      have HSM0 : Hid ((pu0 t s so d who 1 V m).Same (pu0 t s so d who 1 V m)) := Pu.Same.refl _
      have HLe := Lib.hid (Nat.le_refl L.length)
      have Hnw : Hid (now = now + 0) := rfl
      clear hS3 hb3 hbb q0 q1 q2 q3 HH hok hx
      go_wp2_with fail
      go_loopw [15, 20] (fun nw i wr => ∃ (q now2 : Nat) (v : Value) (C' : List Int) (L' : List Ev) (k : Pu), q ≤ Q ∧ nw = .int .i64 now2 ∧ i = .int .i64 q ∧ Hid (now2 = now + q) ∧ Hid (PuHold W wr p c v C' L' b b1 b2 k [tObj W.heap.size lb [.int .i64 lo0, .int .i64 hi0]]) ∧ Hid (OneP k C' C t s N m nb hz (m + e) (now2 : Int) (now2 : Int) hi0) ∧ Hid ((q : Int) + k.rem m ≤ (Q : Int)) ∧ Hid ((pu0 t s so d who 1 V m).Same k) ∧ Hid (L'.length ≤ L.length + q)) (fun _ i _ => 100 - (intOf i).toNat)
      case atStart => exact ⟨0, now, _, _, _, _, by omega, rfl, rfl, Hnw, HH1, HS0, HR0, HSM0, HLe⟩
      case round =>
        clear HH1 HS0 HR0 HSM0 HLe Hnw
        obtain ⟨q, now2, v', C', L', k, hq, rfl, rfl, Hnw, HH, HS, HR, HSM, HLL⟩ := hrel
        obtain ⟨q0, q1, q2, q3⟩ := HA.out.later HH.out.below Hs.out
        go_wp2_with fail
        refine (HPM.out _).mono ?_
        rintro r w4 ⟨rfl, hb4⟩
        replace HH := Lib.hid (HH.out.later hb4)
        clear hb4 q0 q1 q2 q3
        have hn2 : now2 ≤ 600 := by have := Hnw.out; omega
        rcases Nat.lt_or_ge q Q with hqQ | hqQ
        · have hst := HH.out.call (now := (now2 : Int)) HS.out.ok (by omega) (by have := HLL.out; have := HL.out; omega)
          have HST := Lib.hid hst
          have hs2 := HS.out.step HSM.out.t HSM.out.s (by omega) (by omega) (by omega) (by omega) HH.out.mem.nn
          have HS2 := Lib.hid hs2
          have hnx := HS.out.ok.next_ (now := (now2 : Int)) (by omega) HH.out.mem.nn
          have HR2 : Hid (((q + 1 : Nat) : Int) + (k.step m nb hz C' (now2 : Int)).rem m ≤ (Q : Int)) := by
            have h1 := HR.out
            show _ ≤ _
            by_cases hp : k.ph = 0
            · have := hnx.2 hp
              omega
            · have : (k.step m nb hz C' (now2 : Int)).rem m = 0 := by
                unfold Pu.rem
                rw [if_pos (by rw [show k.step m nb hz C' (now2 : Int) = k from if_pos hp]; exact hp)]
              omega
          have HSM2 := Lib.hid (HSM.out.trans (Pu.step_same k m nb hz C' (now2 : Int)))
          clear hst hs2 hnx
          go_wp2_with fail
          refine HST.out.mono ?_
          rintro r w5 ⟨rfl, v5, hH5⟩
          have HH5 := Lib.hid hH5
          have HE5 := Lib.hid (Pu.ev_le k N nb hz C' (now2 : Int))
          clear hH5 HST
          go_wp2_with fail
          go_roundw
          case rel => exact ⟨q + 1, now2 + 1, v5, _, _, _, by omega, by go_num, by go_num, by have := Hnw.out; show _ = _; omega, HH5, HS2, HR2, HSM2, by have := HLL.out; have := HE5.out; show _ ≤ _; rw [List.length_append]; omega⟩
          case measure => first | omega | (simp [intOf]; done) | (simp [intOf]; omega)
        · obtain rfl : q = Q := by omega
          have hp0 : k.ph ≠ 0 := fun h0 => by
            have := Pu.rem_pos HS.out.ok h0
            have := HR.out
            omega
          rcases HS.out with ⟨j0, j1, u1, u2, hS⟩ | ⟨u1, hS, hCC, hnum⟩
          · have hes : (e : Int) < s := by omega
            have hp1 : k.ph = 1 := hS.ph.resolve_left hp0
            obtain ⟨hc1, ht1⟩ := hS.fin hp1
            obtain ⟨g1, g2, g3, g4, g5, g6⟩ := HO.out.did hS HSM.out hp1 hes hmN t1 Hnb.out
            obtain ⟨r1, r2, r3, r4, r5, r6, r7⟩ := pack_parts hS.ok hc1 ht1
            have hke : k.e = 1 := HSM.out.e
            have hslt : (if k.ph = 1 then k.cl.slot else -1) = ((m + e : Nat) : Int) := by rw [if_pos hp1, g1]
            have hdiv : ((m + e : Nat) : Int) / s = who := own_div s1 s2 Hm.out (by omega) (by omega)
            have hClen : C'.length = nb + t.toNat := g6.len
            have hbefore : decide (hi0 < k.tk.lo) = true := decide_eq_true g3
            rw [g2] at r3
            rw [hke] at r2
            have hPu1 : Hid (k.tk.lo = k.tk.lo) := rfl
            obtain ⟨lo, hlo⟩ : ∃ lo, k.tk.lo = lo := ⟨_, rfl⟩
            obtain ⟨hi, hhi⟩ : ∃ hi, k.tk.hi = hi := ⟨_, rfl⟩
            rw [hlo] at r4 hbefore
            rw [hhi] at r5 g6
            generalize k.pack = P at g5 r1 r2 r3 r4 r5 r6 r7
            have HP1 := Lib.hid hp1
            have HSL := Lib.hid hslt
            have HLO := Lib.hid hlo
            have HHI := Lib.hid hhi
            have HDV := Lib.hid hdiv
            have HBF := Lib.hid hbefore
            have HGW : Hid (C'[m + e]? = some P) := by show _ = _; rw [getD_pu (by have := Hnb.out; omega), g5]
            have HGV : Hid (C'[N + (m + e)]? = some V) := by show _ = _; rw [getD_pu (by have := Hnb.out; omega)]; exact congrArg some g4
            have HPP : Hid (P % 4 = 1 ∧ P / 4 % 2 = 1 ∧ P / 8 % 8192 = 1 ∧ P / 65536 % 16777216 = lo ∧ P / 1099511627776 = hi ∧ 0 ≤ P ∧ P ≤ 18446744073709551615) := ⟨r1, r2, r3, r4, r5, r6, r7⟩
            have HO2 := Lib.hid g6
            have hsge : ¬ s ≤ (e : Int) := by omega
            clear hc1 ht1 g1 g2 g3 g4 g5 g6 r1 r2 r3 r4 r5 r6 r7 hke hslt hdiv hClen hbefore hlo hhi hp1 hp0 HS HR j0 j1 u1 u2 hS hPu1
            obtain ⟨q0, q1, q2, q3⟩ := HA.out.later HH.out.below Hs.out
            go_wp2_with fail
            have HLB : Hid (IsObj w4 lb [.int .i64 lo0, .int .i64 hi0]) := (Hold.has HH.out 2 _ rfl).1
            refine wp_region_seqS ((fun w' => AtC w' cb t s so d ∧ w'.cell? ⟨lb, 0, none⟩ = some (.int .i64 lo0) ∧ w'.cell? ⟨lb, 1, none⟩ = some (.int .i64 hi0))) ((0, true) :: (1, false) :: (2, true) :: (3, true) :: (4, true) :: (5, true) :: (8, true) :: (6, false) :: (7, false) :: (9, true) :: (10, true) :: (11, true) :: (12, true) :: (13, true) :: (14, false) :: (15, false) :: (16, true) :: (17, true) :: (18, true) :: (19, true) :: (20, true) :: (21, true) :: (25, true) :: (22, false) :: (23, false) :: (24, false) :: (26, true) :: (27, true) :: []) (by kernel_rfl) (by kernel_rfl) (by kernel_rfl) (by decide) (fun _ _ _ _ _ h => h) (⟨HA.out.later (Hold.drew HH.out).below Hs.out, HLB.out.drew.at' 0 _ rfl, HLB.out.drew.at' 1 _ rfl⟩) ?_
            replace HH : Hid (PuHold W w4.drew p c v' C' L' b b1 b2 k [tObj W.heap.size lb [.int .i64 lo0, .int .i64 hi0]]) := Hold.drew HH.out
            replace HLB := Lib.hid HLB.out.drew
            clear q0 q1 q2 q3
            repeat (first | (refine seq_take (v := ?_) rfl ?_ ?_ ?_; rotate_left 1; rfl; (focus (intro wS hSw; obtain ⟨⟨c0, c1, c2, c3⟩, l0, l1⟩ := hSw; go_simp; first | done | with_reducible rfl)); (try simp only [Act.put, List.setIfInBounds_toArray, List.set_cons_zero, List.set_cons_succ])) | (refine seq_skip rfl ?_ ?_; rfl; (try simp only [Act.put, List.setIfInBounds_toArray, List.set_cons_zero, List.set_cons_succ])))
            refine seq_run rfl (fun K hK => ?_)
            go_simp
            go_at_call 41
            refine (puphase_at 1 HP1.out HH.out.pu).mono ?_
            rintro r wr2 ⟨rfl, rfl⟩
            (try go_wp2_with fail)
            refine hK.out _ _ (⟨HA.out.later HH.out.below Hs.out, HLB.out.at' 0 _ rfl, HLB.out.at' 1 _ rfl⟩) (fun _ => ?_)
            (try simp only [Act.put, List.setIfInBounds_toArray, List.set_cons_zero, List.set_cons_succ])
            clear hK K
            repeat (first | (refine seq_take (v := ?_) rfl ?_ ?_ ?_; rotate_left 1; rfl; (focus (intro wS hSw; obtain ⟨⟨c0, c1, c2, c3⟩, l0, l1⟩ := hSw; go_simp; first | done | with_reducible rfl)); (try simp only [Act.put, List.setIfInBounds_toArray, List.set_cons_zero, List.set_cons_succ])) | (refine seq_skip rfl ?_ ?_; rfl; (try simp only [Act.put, List.setIfInBounds_toArray, List.set_cons_zero, List.set_cons_succ])))
            refine seq_run rfl (fun K hK => ?_)
            go_simp
            go_at_call 36
            refine (puslot_at _ HSL.out HH.out.pu).mono ?_
            rintro r wr2 ⟨rfl, rfl⟩
            (try go_wp2_with fail)
            refine hK.out _ _ (⟨HA.out.later HH.out.below Hs.out, HLB.out.at' 0 _ rfl, HLB.out.at' 1 _ rfl⟩) (fun _ => ?_)
            (try simp only [Act.put, List.setIfInBounds_toArray, List.set_cons_zero, List.set_cons_succ])
            clear hK K
            repeat (first | (refine seq_take (v := ?_) rfl ?_ ?_ ?_; rotate_left 1; rfl; (focus (intro wS hSw; obtain ⟨⟨c0, c1, c2, c3⟩, l0, l1⟩ := hSw; go_simp; first | done | with_reducible rfl)); (try simp only [Act.put, List.setIfInBounds_toArray, List.set_cons_zero, List.set_cons_succ])) | (refine seq_skip rfl ?_ ?_; rfl; (try simp only [Act.put, List.setIfInBounds_toArray, List.set_cons_zero, List.set_cons_succ])))
            refine seq_run rfl (fun K hK => ?_)
            go_simp
            go_at_call 42
            refine (cowner4_at t s so d N _ who _ hlay (by omega) (by omega) HDV.out).mono ?_
            rintro r w5 ⟨rfl, hb5⟩
            (try go_wp2_with fail)
            replace HH := Lib.hid (HH.out.later hb5)
            replace HLB := Lib.hid (HLB.out.later hb5)
            clear hb5
            refine hK.out _ _ (⟨HA.out.later HH.out.below Hs.out, HLB.out.at' 0 _ rfl, HLB.out.at' 1 _ rfl⟩) (fun _ => ?_)
            (try simp only [Act.put, List.setIfInBounds_toArray, List.set_cons_zero, List.set_cons_succ])
            clear hK K
            repeat (first | (refine seq_take (v := ?_) rfl ?_ ?_ ?_; rotate_left 1; rfl; (focus (intro wS hSw; obtain ⟨⟨c0, c1, c2, c3⟩, l0, l1⟩ := hSw; go_simp; first | done | with_reducible rfl)); (try simp only [Act.put, List.setIfInBounds_toArray, List.set_cons_zero, List.set_cons_succ])) | (refine seq_skip rfl ?_ ?_; rfl; (try simp only [Act.put, List.setIfInBounds_toArray, List.set_cons_zero, List.set_cons_succ])))
            refine seq_run rfl (fun K hK => ?_)
            go_simp
            go_at_call 37
            refine (pustamp_at lo hi HP1.out HLO.out HHI.out HH.out.pu).mono ?_
            rintro r w5 ⟨rfl, hb5⟩
            (try go_wp2_with fail)
            replace HH := Lib.hid (HH.out.later hb5)
            replace HLB := Lib.hid (HLB.out.later hb5)
            clear hb5
            refine hK.out _ _ (⟨HA.out.later HH.out.below Hs.out, HLB.out.at' 0 _ rfl, HLB.out.at' 1 _ rfl⟩) (fun _ => ?_)
            (try simp only [Act.put, List.setIfInBounds_toArray, List.set_cons_zero, List.set_cons_succ])
            clear hK K
            repeat (first | (refine seq_take (v := ?_) rfl ?_ ?_ ?_; rotate_left 1; rfl; (focus (intro wS hSw; obtain ⟨⟨c0, c1, c2, c3⟩, l0, l1⟩ := hSw; go_simp; first | done | with_reducible rfl)); (try simp only [Act.put, List.setIfInBounds_toArray, List.set_cons_zero, List.set_cons_succ])) | (refine seq_skip rfl ?_ ?_; rfl; (try simp only [Act.put, List.setIfInBounds_toArray, List.set_cons_zero, List.set_cons_succ])))
            refine seq_run rfl (fun K hK => ?_)
            go_simp
            go_at_call 43
            refine (before_at _ _ _ _ _ HBF.out).mono ?_
            rintro r w5 ⟨rfl, hb5⟩
            (try go_wp2_with fail)
            replace HH := Lib.hid (HH.out.later hb5)
            replace HLB := Lib.hid (HLB.out.later hb5)
            clear hb5
            refine hK.out _ _ (⟨HA.out.later HH.out.below Hs.out, HLB.out.at' 0 _ rfl, HLB.out.at' 1 _ rfl⟩) (fun _ => ?_)
            (try simp only [Act.put, List.setIfInBounds_toArray, List.set_cons_zero, List.set_cons_succ])
            clear hK K
            repeat (first | (refine seq_take (v := ?_) rfl ?_ ?_ ?_; rotate_left 1; rfl; (focus (intro wS hSw; obtain ⟨⟨c0, c1, c2, c3⟩, l0, l1⟩ := hSw; go_simp; first | done | with_reducible rfl)); (try simp only [Act.put, List.setIfInBounds_toArray, List.set_cons_zero, List.set_cons_succ])) | (refine seq_skip rfl ?_ ?_; rfl; (try simp only [Act.put, List.setIfInBounds_toArray, List.set_cons_zero, List.set_cons_succ])))
            refine seq_run rfl (fun K hK => ?_)
            go_simp
            go_at_call 36
            refine (puslot_at _ HSL.out HH.out.pu).mono ?_
            rintro r wr2 ⟨rfl, rfl⟩
            (try go_wp2_with fail)
            refine hK.out _ _ (⟨HA.out.later HH.out.below Hs.out, HLB.out.at' 0 _ rfl, HLB.out.at' 1 _ rfl⟩) (fun _ => ?_)
            (try simp only [Act.put, List.setIfInBounds_toArray, List.set_cons_zero, List.set_cons_succ])
            clear hK K
            repeat (first | (refine seq_take (v := ?_) rfl ?_ ?_ ?_; rotate_left 1; rfl; (focus (intro wS hSw; obtain ⟨⟨c0, c1, c2, c3⟩, l0, l1⟩ := hSw; go_simp; first | done | with_reducible rfl)); (try simp only [Act.put, List.setIfInBounds_toArray, List.set_cons_zero, List.set_cons_succ])) | (refine seq_skip rfl ?_ ?_; rfl; (try simp only [Act.put, List.setIfInBounds_toArray, List.set_cons_zero, List.set_cons_succ])))
            refine seq_run rfl (fun K hK => ?_)
            go_simp
            go_at_call 28
            refine (pvalue_at t s so d N _ (N + (m + e)) _ hlay (by omega) (by omega) (by omega)).mono ?_
            rintro r w5 ⟨rfl, hb5⟩
            (try go_wp2_with fail)
            replace HH := Lib.hid (HH.out.later hb5)
            replace HLB := Lib.hid (HLB.out.later hb5)
            clear hb5
            refine hK.out _ _ (⟨HA.out.later HH.out.below Hs.out, HLB.out.at' 0 _ rfl, HLB.out.at' 1 _ rfl⟩) (fun _ => ?_)
            (try simp only [Act.put, List.setIfInBounds_toArray, List.set_cons_zero, List.set_cons_succ])
            clear hK K
            repeat (first | (refine seq_take (v := ?_) rfl ?_ ?_ ?_; rotate_left 1; rfl; (focus (intro wS hSw; obtain ⟨⟨c0, c1, c2, c3⟩, l0, l1⟩ := hSw; go_simp; first | done | with_reducible rfl)); (try simp only [Act.put, List.setIfInBounds_toArray, List.set_cons_zero, List.set_cons_succ])) | (refine seq_skip rfl ?_ ?_; rfl; (try simp only [Act.put, List.setIfInBounds_toArray, List.set_cons_zero, List.set_cons_succ])))
            refine seq_run rfl (fun K hK => ?_)
            go_simp
            go_at_call 44
            refine (peek_in W.heap.size _ p c _ _ _ (N + (m + e)) V HH.out.mem HGV.out).mono ?_
            rintro r wr2 ⟨rfl, rfl⟩
            (try go_wp2_with fail)
            refine hK.out _ _ (⟨HA.out.later HH.out.below Hs.out, HLB.out.at' 0 _ rfl, HLB.out.at' 1 _ rfl⟩) (fun _ => ?_)
            (try simp only [Act.put, List.setIfInBounds_toArray, List.set_cons_zero, List.set_cons_succ])
            clear hK K
            repeat (first | (refine seq_take (v := ?_) rfl ?_ ?_ ?_; rotate_left 1; rfl; (focus (intro wS hSw; obtain ⟨⟨c0, c1, c2, c3⟩, l0, l1⟩ := hSw; go_simp; first | done | with_reducible rfl)); (try simp only [Act.put, List.setIfInBounds_toArray, List.set_cons_zero, List.set_cons_succ])) | (refine seq_skip rfl ?_ ?_; rfl; (try simp only [Act.put, List.setIfInBounds_toArray, List.set_cons_zero, List.set_cons_succ])))
            refine seq_done ?_
            go_wp2_with fail
            refine (pustamp_at lo hi HP1.out HLO.out HHI.out HH.out.pu).mono ?_
            rintro r w6 ⟨rfl, hb6⟩
            replace HH := Lib.hid (HH.out.later hb6)
            replace HLB := Lib.hid (HLB.out.later hb6)
            clear hb6
            have l0 := HLB.out.at' 0 _ rfl
            have l1 := HLB.out.at' 1 _ rfl
            have f0 := HLB.out.fz 0
            have f1 := HLB.out.fz 1
            have hst0 := Hold.setBox HH.out 2 rfl 0 (.int .i64 lo)
            have hst1 := Hold.setBox hst0 2 rfl 1 (.int .i64 hi)
            replace HH : Hid (Hold W ((w6.setCell ⟨lb, 0, none⟩ (.int .i64 lo)).setCell ⟨lb, 1, none⟩ (.int .i64 hi)) [tMem W.heap.size p c v' C' L', tPu W.heap.size b b1 b2 k, tObj W.heap.size lb [.int .i64 lo, .int .i64 hi]]) := hst1
            clear hst0 hst1
            go_wp2_with fail
            generalize (w6.setCell ⟨lb, 0, none⟩ (.int .i64 lo)).setCell ⟨lb, 1, none⟩ (.int .i64 hi) = wl at HH ⊢
            clear l0 l1 f0 f1 HLB
            go_cut [21] (fun s21 wx => ∃ bx, s21 = .pointer (some ⟨bx, 0, none⟩) ∧ Hid (Hold W wx ([tMem W.heap.size p c v' C' L', tPu W.heap.size b b1 b2 k, tObj W.heap.size lb [.int .i64 lo, .int .i64 hi]] ++ [tObj W.heap.size bx [.int .i64 1, .int .i64 1, .int .i64 1, .int .i64 lo, .int .i64 hi]])))
            case first =>
              refine wp_region_seqT (fun w' => AtC w' cb t s so d) (.take 0 (.take 1 (.take 2 (.two 3 (.two 4 (.two 5 (.two 6 (.one 7 (.one 8 .nil)) 7 (.one 6 (.one 8 .nil))) 7 (.one 5 (.one 6 (.one 8 .nil)))) 7 (.one 4 (.one 5 (.one 6 (.one 8 .nil))))) 7 (.one 3 (.one 4 (.one 5 (.one 6 (.one 8 .nil))))))))) (by kernel_rfl) (by kernel_rfl) (by kernel_rfl) (by decide) (fun _ _ _ _ _ h => h) (HA.out.later (Hold.below (Hold.drew HH.out)) Hs.out) ?_
              repeat (refine seqT_take (v := ?_) rfl ?_ ?_ ?_; rotate_left 1; rfl; (focus (intro wS hSw; obtain ⟨c0, c1, c2, c3⟩ := hSw; go_simp; first | done | with_reducible rfl)); (try simp only [Act.put, List.setIfInBounds_toArray, List.set_cons_zero, List.set_cons_succ]))
              replace HH := Lib.hid (Hold.drew HH.out)
              generalize wl.drew = ww0 at HH ⊢
              refine ⟨?_, ?_⟩
              · refine runT rfl (fun K hK => ?_)
                go_simp
                go_at_call 36
                refine (quiet_below (puslot_at ((m + e : Nat) : Int) HSL.out (Hold.has HH.out 1 _ rfl).1)).mono ?_
                rintro r ww1 ⟨rfl, hb⟩
                (try go_wp2_with fail)
                replace HH := Lib.hid (Hold.later HH.out hb)
                clear hb
                refine hK.out _ _ (HA.out.later (Hold.below HH.out) Hs.out) (fun _ => ?_)
                (try simp only [Act.put, List.setIfInBounds_toArray, List.set_cons_zero, List.set_cons_succ])
                clear hK K
                try clear ww0
                refine ⟨?_, ?_⟩
                · refine runT rfl (fun K hK => ?_)
                  go_simp
                  go_at_call 32
                  refine (pword_at t s so d _ (m + e) _ rfl).mono ?_
                  rintro r ww2 ⟨rfl, hb⟩
                  (try go_wp2_with fail)
                  replace HH := Lib.hid (Hold.later HH.out hb)
                  clear hb
                  refine hK.out _ _ (HA.out.later (Hold.below HH.out) Hs.out) (fun _ => ?_)
                  (try simp only [Act.put, List.setIfInBounds_toArray, List.set_cons_zero, List.set_cons_succ])
                  clear hK K
                  try clear ww1
                  refine ⟨?_, ?_⟩
                  · refine runT rfl (fun K hK => ?_)
                    go_simp
                    go_at_call 44
                    refine (quiet_below (peek_in W.heap.size _ p c _ _ _ (m + e) P (Hold.has HH.out 0 _ rfl) HGW.out)).mono ?_
                    rintro r ww3 ⟨rfl, hb⟩
                    (try go_wp2_with fail)
                    replace HH := Lib.hid (Hold.later HH.out hb)
                    clear hb
                    refine hK.out _ _ (HA.out.later (Hold.below HH.out) Hs.out) (fun _ => ?_)
                    (try simp only [Act.put, List.setIfInBounds_toArray, List.set_cons_zero, List.set_cons_succ])
                    clear hK K
                    try clear ww2
                    refine ⟨?_, ?_⟩
                    · refine runT rfl (fun K hK => ?_)
                      go_simp
                      go_at_call 45
                      refine (unpack_at P 1 1 1 lo hi _ HPP.out).mono ?_
                      rintro r ww4 ⟨rfl, hb⟩
                      (try go_wp2_with fail)
                      replace HH := Lib.hid (Hold.later HH.out hb)
                      clear hb
                      refine hK.out _ _ (HA.out.later (Hold.below HH.out) Hs.out) (fun _ => ?_)
                      (try simp only [Act.put, List.setIfInBounds_toArray, List.set_cons_zero, List.set_cons_succ])
                      clear hK K
                      try clear ww3
                      refine runT rfl (fun K hK => ?_)
                      go_simp
                      have hb := below_new (Below.refl ww4.heap.size ww4) (.cells #[i64 0, i64 0, i64 0, i64 0, i64 0] 54)
                      replace HH : Hid (Hold W (ww4.alloc (.cells #[i64 0, i64 0, i64 0, i64 0, i64 0] 54)) ([tMem W.heap.size p c v' C' L', tPu W.heap.size b b1 b2 k, tObj W.heap.size lb [i64 lo, i64 hi]] ++ [tObj W.heap.size ww4.heap.size [i64 0, i64 0, i64 0, i64 0, i64 0]])) := Hold.more HH.out hb (tObj_ok _ _ _) ⟨IsObj.made ww4 [i64 0, i64 0, i64 0, i64 0, i64 0] 54, HH.out.size⟩ (fun q hq => by cases hq; exact Nat.le_refl _)
                      clear hb
                      generalize ww4.alloc (.cells #[i64 0, i64 0, i64 0, i64 0, i64 0] 54) = ww5 at HH ⊢
                      generalize ww4.heap.size = bx at HH ⊢
                      refine hK.out _ _ (HA.out.later (Hold.below HH.out) Hs.out) (fun _ => ?_)
                      (try simp only [Act.put, List.setIfInBounds_toArray, List.set_cons_zero, List.set_cons_succ])
                      clear hK K
                      try clear ww4
                      refine runT rfl (fun K hK => ?_)
                      have hbx : IsObj ww5 bx [i64 0, i64 0, i64 0, i64 0, i64 0] := (Hold.has HH.out 3 _ rfl).1
                      have q0 := hbx.at' 0 _ rfl
                      have q1 := hbx.at' 1 _ rfl
                      have q2 := hbx.at' 2 _ rfl
                      have q3 := hbx.at' 3 _ rfl
                      have q4 := hbx.at' 4 _ rfl
                      have f0 := hbx.fz 0
                      have f1 := hbx.fz 1
                      have f2 := hbx.fz 2
                      have f3 := hbx.fz 3
                      have f4 := hbx.fz 4
                      go_simp
                      clear q0 f0 q1 f1 q2 f2 q3 f3 q4 f4 hbx
                      replace HH := Lib.hid (Hold.setBox HH.out 3 rfl 0 (i64 1))
                      replace HH := Lib.hid (Hold.setBox HH.out 3 rfl 1 (i64 1))
                      replace HH := Lib.hid (Hold.setBox HH.out 3 rfl 2 (i64 1))
                      replace HH := Lib.hid (Hold.setBox HH.out 3 rfl 3 (i64 lo))
                      replace HH := Lib.hid (Hold.setBox HH.out 3 rfl 4 (i64 hi))
                      replace HH : Hid (Hold W (((((ww5.setCell ⟨bx, 0, none⟩ (i64 1)).setCell ⟨bx, 1, none⟩ (i64 1)).setCell ⟨bx, 2, none⟩ (i64 1)).setCell ⟨bx, 3, none⟩ (i64 lo)).setCell ⟨bx, 4, none⟩ (i64 hi)) ([tMem W.heap.size p c v' C' L', tPu W.heap.size b b1 b2 k, tObj W.heap.size lb [i64 lo, i64 hi]] ++ [tObj W.heap.size bx [i64 1, i64 1, i64 1, i64 lo, i64 hi]])) := HH.out
                      generalize (((((ww5.setCell ⟨bx, 0, none⟩ (i64 1)).setCell ⟨bx, 1, none⟩ (i64 1)).setCell ⟨bx, 2, none⟩ (i64 1)).setCell ⟨bx, 3, none⟩ (i64 lo)).setCell ⟨bx, 4, none⟩ (i64 hi)) = wz at HH ⊢
                      refine hK.out _ _ (HA.out.later (Hold.below HH.out) Hs.out) (fun _ => ?_)
                      (try simp only [Act.put, List.setIfInBounds_toArray, List.set_cons_zero, List.set_cons_succ])
                      clear hK K
                      refine seqT_done ?_
                      go_wp2_with fail
                      go_meet
                      exact ⟨bx, rfl, HH⟩
                    · refine runT rfl (fun K hK => ?_)
                      go_simp
                      have hb := below_new (Below.refl ww3.heap.size ww3) (.cells #[i64 0, i64 0, i64 0, i64 0, i64 0] 54)
                      replace HH : Hid (Hold W (ww3.alloc (.cells #[i64 0, i64 0, i64 0, i64 0, i64 0] 54)) ([tMem W.heap.size p c v' C' L', tPu W.heap.size b b1 b2 k, tObj W.heap.size lb [i64 lo, i64 hi]] ++ [tObj W.heap.size ww3.heap.size [i64 0, i64 0, i64 0, i64 0, i64 0]])) := Hold.more HH.out hb (tObj_ok _ _ _) ⟨IsObj.made ww3 [i64 0, i64 0, i64 0, i64 0, i64 0] 54, HH.out.size⟩ (fun q hq => by cases hq; exact Nat.le_refl _)
                      clear hb
                      generalize ww3.alloc (.cells #[i64 0, i64 0, i64 0, i64 0, i64 0] 54) = ww4 at HH ⊢
                      generalize ww3.heap.size = bx at HH ⊢
                      refine hK.out _ _ (HA.out.later (Hold.below HH.out) Hs.out) (fun _ => ?_)
                      (try simp only [Act.put, List.setIfInBounds_toArray, List.set_cons_zero, List.set_cons_succ])
                      clear hK K
                      try clear ww3
                      refine runT rfl (fun K hK => ?_)
                      go_simp
                      go_at_call 45
                      refine (unpack_at P 1 1 1 lo hi _ HPP.out).mono ?_
                      rintro r ww5 ⟨rfl, hb⟩
                      (try go_wp2_with fail)
                      replace HH := Lib.hid (Hold.later HH.out hb)
                      clear hb
                      refine hK.out _ _ (HA.out.later (Hold.below HH.out) Hs.out) (fun _ => ?_)
                      (try simp only [Act.put, List.setIfInBounds_toArray, List.set_cons_zero, List.set_cons_succ])
                      clear hK K
                      try clear ww4
                      refine runT rfl (fun K hK => ?_)
                      have hbx : IsObj ww5 bx [i64 0, i64 0, i64 0, i64 0, i64 0] := (Hold.has HH.out 3 _ rfl).1
                      have q0 := hbx.at' 0 _ rfl
                      have q1 := hbx.at' 1 _ rfl
                      have q2 := hbx.at' 2 _ rfl
                      have q3 := hbx.at' 3 _ rfl
                      have q4 := hbx.at' 4 _ rfl
                      have f0 := hbx.fz 0
                      have f1 := hbx.fz 1
                      have f2 := hbx.fz 2
                      have f3 := hbx.fz 3
                      have f4 := hbx.fz 4
                      go_simp
                      clear q0 f0 q1 f1 q2 f2 q3 f3 q4 f4 hbx
                      replace HH := Lib.hid (Hold.setBox HH.out 3 rfl 0 (i64 1))
                      replace HH := Lib.hid (Hold.setBox HH.out 3 rfl 1 (i64 1))
                      replace HH := Lib.hid (Hold.setBox HH.out 3 rfl 2 (i64 1))
                      replace HH := Lib.hid (Hold.setBox HH.out 3 rfl 3 (i64 lo))
                      replace HH := Lib.hid (Hold.setBox HH.out 3 rfl 4 (i64 hi))
                      replace HH : Hid (Hold W (((((ww5.setCell ⟨bx, 0, none⟩ (i64 1)).setCell ⟨bx, 1, none⟩ (i64 1)).setCell ⟨bx, 2, none⟩ (i64 1)).setCell ⟨bx, 3, none⟩ (i64 lo)).setCell ⟨bx, 4, none⟩ (i64 hi)) ([tMem W.heap.size p c v' C' L', tPu W.heap.size b b1 b2 k, tObj W.heap.size lb [i64 lo, i64 hi]] ++ [tObj W.heap.size bx [i64 1, i64 1, i64 1, i64 lo, i64 hi]])) := HH.out
                      generalize (((((ww5.setCell ⟨bx, 0, none⟩ (i64 1)).setCell ⟨bx, 1, none⟩ (i64 1)).setCell ⟨bx, 2, none⟩ (i64 1)).setCell ⟨bx, 3, none⟩ (i64 lo)).setCell ⟨bx, 4, none⟩ (i64 hi)) = wz at HH ⊢
                      refine hK.out _ _ (HA.out.later (Hold.below HH.out) Hs.out) (fun _ => ?_)
                      (try simp only [Act.put, List.setIfInBounds_toArray, List.set_cons_zero, List.set_cons_succ])
                      clear hK K
                      refine seqT_done ?_
                      go_wp2_with fail
                      go_meet
                      exact ⟨bx, rfl, HH⟩
                  · refine runT rfl (fun K hK => ?_)
                    go_simp
                    have hb := below_new (Below.refl ww2.heap.size ww2) (.cells #[i64 0, i64 0, i64 0, i64 0, i64 0] 54)
                    replace HH : Hid (Hold W (ww2.alloc (.cells #[i64 0, i64 0, i64 0, i64 0, i64 0] 54)) ([tMem W.heap.size p c v' C' L', tPu W.heap.size b b1 b2 k, tObj W.heap.size lb [i64 lo, i64 hi]] ++ [tObj W.heap.size ww2.heap.size [i64 0, i64 0, i64 0, i64 0, i64 0]])) := Hold.more HH.out hb (tObj_ok _ _ _) ⟨IsObj.made ww2 [i64 0, i64 0, i64 0, i64 0, i64 0] 54, HH.out.size⟩ (fun q hq => by cases hq; exact Nat.le_refl _)
                    clear hb
                    generalize ww2.alloc (.cells #[i64 0, i64 0, i64 0, i64 0, i64 0] 54) = ww3 at HH ⊢
                    generalize ww2.heap.size = bx at HH ⊢
                    refine hK.out _ _ (HA.out.later (Hold.below HH.out) Hs.out) (fun _ => ?_)
                    (try simp only [Act.put, List.setIfInBounds_toArray, List.set_cons_zero, List.set_cons_succ])
                    clear hK K
                    try clear ww2
                    refine runT rfl (fun K hK => ?_)
                    go_simp
                    go_at_call 44
                    refine (quiet_below (peek_in W.heap.size _ p c _ _ _ (m + e) P (Hold.has HH.out 0 _ rfl) HGW.out)).mono ?_
                    rintro r ww4 ⟨rfl, hb⟩
                    (try go_wp2_with fail)
                    replace HH := Lib.hid (Hold.later HH.out hb)
                    clear hb
                    refine hK.out _ _ (HA.out.later (Hold.below HH.out) Hs.out) (fun _ => ?_)
                    (try simp only [Act.put, List.setIfInBounds_toArray, List.set_cons_zero, List.set_cons_succ])
                    clear hK K
                    try clear ww3
                    refine runT rfl (fun K hK => ?_)
                    go_simp
                    go_at_call 45
                    refine (unpack_at P 1 1 1 lo hi _ HPP.out).mono ?_
                    rintro r ww5 ⟨rfl, hb⟩
                    (try go_wp2_with fail)
                    replace HH := Lib.hid (Hold.later HH.out hb)
                    clear hb
                    refine hK.out _ _ (HA.out.later (Hold.below HH.out) Hs.out) (fun _ => ?_)
                    (try simp only [Act.put, List.setIfInBounds_toArray, List.set_cons_zero, List.set_cons_succ])
                    clear hK K
                    try clear ww4
                    refine runT rfl (fun K hK => ?_)
                    have hbx : IsObj ww5 bx [i64 0, i64 0, i64 0, i64 0, i64 0] := (Hold.has HH.out 3 _ rfl).1
                    have q0 := hbx.at' 0 _ rfl
                    have q1 := hbx.at' 1 _ rfl
                    have q2 := hbx.at' 2 _ rfl
                    have q3 := hbx.at' 3 _ rfl
                    have q4 := hbx.at' 4 _ rfl
                    have f0 := hbx.fz 0
                    have f1 := hbx.fz 1
                    have f2 := hbx.fz 2
                    have f3 := hbx.fz 3
                    have f4 := hbx.fz 4
                    go_simp
                    clear q0 f0 q1 f1 q2 f2 q3 f3 q4 f4 hbx
                    replace HH := Lib.hid (Hold.setBox HH.out 3 rfl 0 (i64 1))
                    replace HH := Lib.hid (Hold.setBox HH.out 3 rfl 1 (i64 1))
                    replace HH := Lib.hid (Hold.setBox HH.out 3 rfl 2 (i64 1))
                    replace HH := Lib.hid (Hold.setBox HH.out 3 rfl 3 (i64 lo))
                    replace HH := Lib.hid (Hold.setBox HH.out 3 rfl 4 (i64 hi))
                    replace HH : Hid (Hold W (((((ww5.setCell ⟨bx, 0, none⟩ (i64 1)).setCell ⟨bx, 1, none⟩ (i64 1)).setCell ⟨bx, 2, none⟩ (i64 1)).setCell ⟨bx, 3, none⟩ (i64 lo)).setCell ⟨bx, 4, none⟩ (i64 hi)) ([tMem W.heap.size p c v' C' L', tPu W.heap.size b b1 b2 k, tObj W.heap.size lb [i64 lo, i64 hi]] ++ [tObj W.heap.size bx [i64 1, i64 1, i64 1, i64 lo, i64 hi]])) := HH.out
                    generalize (((((ww5.setCell ⟨bx, 0, none⟩ (i64 1)).setCell ⟨bx, 1, none⟩ (i64 1)).setCell ⟨bx, 2, none⟩ (i64 1)).setCell ⟨bx, 3, none⟩ (i64 lo)).setCell ⟨bx, 4, none⟩ (i64 hi)) = wz at HH ⊢
                    refine hK.out _ _ (HA.out.later (Hold.below HH.out) Hs.out) (fun _ => ?_)
                    (try simp only [Act.put, List.setIfInBounds_toArray, List.set_cons_zero, List.set_cons_succ])
                    clear hK K
                    refine seqT_done ?_
                    go_wp2_with fail
                    go_meet
                    exact ⟨bx, rfl, HH⟩
                · refine runT rfl (fun K hK => ?_)
                  go_simp
                  have hb := below_new (Below.refl ww1.heap.size ww1) (.cells #[i64 0, i64 0, i64 0, i64 0, i64 0] 54)
                  replace HH : Hid (Hold W (ww1.alloc (.cells #[i64 0, i64 0, i64 0, i64 0, i64 0] 54)) ([tMem W.heap.size p c v' C' L', tPu W.heap.size b b1 b2 k, tObj W.heap.size lb [i64 lo, i64 hi]] ++ [tObj W.heap.size ww1.heap.size [i64 0, i64 0, i64 0, i64 0, i64 0]])) := Hold.more HH.out hb (tObj_ok _ _ _) ⟨IsObj.made ww1 [i64 0, i64 0, i64 0, i64 0, i64 0] 54, HH.out.size⟩ (fun q hq => by cases hq; exact Nat.le_refl _)
                  clear hb
                  generalize ww1.alloc (.cells #[i64 0, i64 0, i64 0, i64 0, i64 0] 54) = ww2 at HH ⊢
                  generalize ww1.heap.size = bx at HH ⊢
                  refine hK.out _ _ (HA.out.later (Hold.below HH.out) Hs.out) (fun _ => ?_)
                  (try simp only [Act.put, List.setIfInBounds_toArray, List.set_cons_zero, List.set_cons_succ])
                  clear hK K
                  try clear ww1
                  refine runT rfl (fun K hK => ?_)
                  go_simp
                  go_at_call 32
                  refine (pword_at t s so d _ (m + e) _ rfl).mono ?_
                  rintro r ww3 ⟨rfl, hb⟩
                  (try go_wp2_with fail)
                  replace HH := Lib.hid (Hold.later HH.out hb)
                  clear hb
                  refine hK.out _ _ (HA.out.later (Hold.below HH.out) Hs.out) (fun _ => ?_)
                  (try simp only [Act.put, List.setIfInBounds_toArray, List.set_cons_zero, List.set_cons_succ])
                  clear hK K
                  try clear ww2
                  refine runT rfl (fun K hK => ?_)
                  go_simp
                  go_at_call 44
                  refine (quiet_below (peek_in W.heap.size _ p c _ _ _ (m + e) P (Hold.has HH.out 0 _ rfl) HGW.out)).mono ?_
                  rintro r ww4 ⟨rfl, hb⟩
                  (try go_wp2_with fail)
                  replace HH := Lib.hid (Hold.later HH.out hb)
                  clear hb
                  refine hK.out _ _ (HA.out.later (Hold.below HH.out) Hs.out) (fun _ => ?_)
                  (try simp only [Act.put, List.setIfInBounds_toArray, List.set_cons_zero, List.set_cons_succ])
                  clear hK K
                  try clear ww3
                  refine runT rfl (fun K hK => ?_)
                  go_simp
                  go_at_call 45
                  refine (unpack_at P 1 1 1 lo hi _ HPP.out).mono ?_
                  rintro r ww5 ⟨rfl, hb⟩
                  (try go_wp2_with fail)
                  replace HH := Lib.hid (Hold.later HH.out hb)
                  clear hb
                  refine hK.out _ _ (HA.out.later (Hold.below HH.out) Hs.out) (fun _ => ?_)
                  (try simp only [Act.put, List.setIfInBounds_toArray, List.set_cons_zero, List.set_cons_succ])
                  clear hK K
                  try clear ww4
                  refine runT rfl (fun K hK => ?_)
                  have hbx : IsObj ww5 bx [i64 0, i64 0, i64 0, i64 0, i64 0] := (Hold.has HH.out 3 _ rfl).1
                  have q0 := hbx.at' 0 _ rfl
                  have q1 := hbx.at' 1 _ rfl
                  have q2 := hbx.at' 2 _ rfl
                  have q3 := hbx.at' 3 _ rfl
                  have q4 := hbx.at' 4 _ rfl
                  have f0 := hbx.fz 0
                  have f1 := hbx.fz 1
                  have f2 := hbx.fz 2
                  have f3 := hbx.fz 3
                  have f4 := hbx.fz 4
                  go_simp
                  clear q0 f0 q1 f1 q2 f2 q3 f3 q4 f4 hbx
                  replace HH := Lib.hid (Hold.setBox HH.out 3 rfl 0 (i64 1))
                  replace HH := Lib.hid (Hold.setBox HH.out 3 rfl 1 (i64 1))
                  replace HH := Lib.hid (Hold.setBox HH.out 3 rfl 2 (i64 1))
                  replace HH := Lib.hid (Hold.setBox HH.out 3 rfl 3 (i64 lo))
                  replace HH := Lib.hid (Hold.setBox HH.out 3 rfl 4 (i64 hi))
                  replace HH : Hid (Hold W (((((ww5.setCell ⟨bx, 0, none⟩ (i64 1)).setCell ⟨bx, 1, none⟩ (i64 1)).setCell ⟨bx, 2, none⟩ (i64 1)).setCell ⟨bx, 3, none⟩ (i64 lo)).setCell ⟨bx, 4, none⟩ (i64 hi)) ([tMem W.heap.size p c v' C' L', tPu W.heap.size b b1 b2 k, tObj W.heap.size lb [i64 lo, i64 hi]] ++ [tObj W.heap.size bx [i64 1, i64 1, i64 1, i64 lo, i64 hi]])) := HH.out
                  generalize (((((ww5.setCell ⟨bx, 0, none⟩ (i64 1)).setCell ⟨bx, 1, none⟩ (i64 1)).setCell ⟨bx, 2, none⟩ (i64 1)).setCell ⟨bx, 3, none⟩ (i64 lo)).setCell ⟨bx, 4, none⟩ (i64 hi)) = wz at HH ⊢
                  refine hK.out _ _ (HA.out.later (Hold.below HH.out) Hs.out) (fun _ => ?_)
                  (try simp only [Act.put, List.setIfInBounds_toArray, List.set_cons_zero, List.set_cons_succ])
                  clear hK K
                  refine seqT_done ?_
                  go_wp2_with fail
                  go_meet
                  exact ⟨bx, rfl, HH⟩
              · refine runT rfl (fun K hK => ?_)
                go_simp
                have hb := below_new (Below.refl ww0.heap.size ww0) (.cells #[i64 0, i64 0, i64 0, i64 0, i64 0] 54)
                replace HH : Hid (Hold W (ww0.alloc (.cells #[i64 0, i64 0, i64 0, i64 0, i64 0] 54)) ([tMem W.heap.size p c v' C' L', tPu W.heap.size b b1 b2 k, tObj W.heap.size lb [i64 lo, i64 hi]] ++ [tObj W.heap.size ww0.heap.size [i64 0, i64 0, i64 0, i64 0, i64 0]])) := Hold.more HH.out hb (tObj_ok _ _ _) ⟨IsObj.made ww0 [i64 0, i64 0, i64 0, i64 0, i64 0] 54, HH.out.size⟩ (fun q hq => by cases hq; exact Nat.le_refl _)
                clear hb
                generalize ww0.alloc (.cells #[i64 0, i64 0, i64 0, i64 0, i64 0] 54) = ww1 at HH ⊢
                generalize ww0.heap.size = bx at HH ⊢
                refine hK.out _ _ (HA.out.later (Hold.below HH.out) Hs.out) (fun _ => ?_)
                (try simp only [Act.put, List.setIfInBounds_toArray, List.set_cons_zero, List.set_cons_succ])
                clear hK K
                try clear ww0
                refine runT rfl (fun K hK => ?_)
                go_simp
                go_at_call 36
                refine (quiet_below (puslot_at ((m + e : Nat) : Int) HSL.out (Hold.has HH.out 1 _ rfl).1)).mono ?_
                rintro r ww2 ⟨rfl, hb⟩
                (try go_wp2_with fail)
                replace HH := Lib.hid (Hold.later HH.out hb)
                clear hb
                refine hK.out _ _ (HA.out.later (Hold.below HH.out) Hs.out) (fun _ => ?_)
                (try simp only [Act.put, List.setIfInBounds_toArray, List.set_cons_zero, List.set_cons_succ])
                clear hK K
                try clear ww1
                refine runT rfl (fun K hK => ?_)
                go_simp
                go_at_call 32
                refine (pword_at t s so d _ (m + e) _ rfl).mono ?_
                rintro r ww3 ⟨rfl, hb⟩
                (try go_wp2_with fail)
                replace HH := Lib.hid (Hold.later HH.out hb)
                clear hb
                refine hK.out _ _ (HA.out.later (Hold.below HH.out) Hs.out) (fun _ => ?_)
                (try simp only [Act.put, List.setIfInBounds_toArray, List.set_cons_zero, List.set_cons_succ])
                clear hK K
                try clear ww2
                refine runT rfl (fun K hK => ?_)
                go_simp
                go_at_call 44
                refine (quiet_below (peek_in W.heap.size _ p c _ _ _ (m + e) P (Hold.has HH.out 0 _ rfl) HGW.out)).mono ?_
                rintro r ww4 ⟨rfl, hb⟩
                (try go_wp2_with fail)
                replace HH := Lib.hid (Hold.later HH.out hb)
                clear hb
                refine hK.out _ _ (HA.out.later (Hold.below HH.out) Hs.out) (fun _ => ?_)
                (try simp only [Act.put, List.setIfInBounds_toArray, List.set_cons_zero, List.set_cons_succ])
                clear hK K
                try clear ww3
                refine runT rfl (fun K hK => ?_)
                go_simp
                go_at_call 45
                refine (unpack_at P 1 1 1 lo hi _ HPP.out).mono ?_
                rintro r ww5 ⟨rfl, hb⟩
                (try go_wp2_with fail)
                replace HH := Lib.hid (Hold.later HH.out hb)
                clear hb
                refine hK.out _ _ (HA.out.later (Hold.below HH.out) Hs.out) (fun _ => ?_)
                (try simp only [Act.put, List.setIfInBounds_toArray, List.set_cons_zero, List.set_cons_succ])
                clear hK K
                try clear ww4
                refine runT rfl (fun K hK => ?_)
                have hbx : IsObj ww5 bx [i64 0, i64 0, i64 0, i64 0, i64 0] := (Hold.has HH.out 3 _ rfl).1
                have q0 := hbx.at' 0 _ rfl
                have q1 := hbx.at' 1 _ rfl
                have q2 := hbx.at' 2 _ rfl
                have q3 := hbx.at' 3 _ rfl
                have q4 := hbx.at' 4 _ rfl
                have f0 := hbx.fz 0
                have f1 := hbx.fz 1
                have f2 := hbx.fz 2
                have f3 := hbx.fz 3
                have f4 := hbx.fz 4
                go_simp
                clear q0 f0 q1 f1 q2 f2 q3 f3 q4 f4 hbx
                replace HH := Lib.hid (Hold.setBox HH.out 3 rfl 0 (i64 1))
                replace HH := Lib.hid (Hold.setBox HH.out 3 rfl 1 (i64 1))
                replace HH := Lib.hid (Hold.setBox HH.out 3 rfl 2 (i64 1))
                replace HH := Lib.hid (Hold.setBox HH.out 3 rfl 3 (i64 lo))
                replace HH := Lib.hid (Hold.setBox HH.out 3 rfl 4 (i64 hi))
                replace HH : Hid (Hold W (((((ww5.setCell ⟨bx, 0, none⟩ (i64 1)).setCell ⟨bx, 1, none⟩ (i64 1)).setCell ⟨bx, 2, none⟩ (i64 1)).setCell ⟨bx, 3, none⟩ (i64 lo)).setCell ⟨bx, 4, none⟩ (i64 hi)) ([tMem W.heap.size p c v' C' L', tPu W.heap.size b b1 b2 k, tObj W.heap.size lb [i64 lo, i64 hi]] ++ [tObj W.heap.size bx [i64 1, i64 1, i64 1, i64 lo, i64 hi]])) := HH.out
                generalize (((((ww5.setCell ⟨bx, 0, none⟩ (i64 1)).setCell ⟨bx, 1, none⟩ (i64 1)).setCell ⟨bx, 2, none⟩ (i64 1)).setCell ⟨bx, 3, none⟩ (i64 lo)).setCell ⟨bx, 4, none⟩ (i64 hi)) = wz at HH ⊢
                refine hK.out _ _ (HA.out.later (Hold.below HH.out) Hs.out) (fun _ => ?_)
                (try simp only [Act.put, List.setIfInBounds_toArray, List.set_cons_zero, List.set_cons_succ])
                clear hK K
                refine seqT_done ?_
                go_wp2_with fail
                go_meet
                exact ⟨bx, rfl, HH⟩
            case rest =>
              obtain ⟨bx, rfl, HH⟩ := hcut
              have HX : Hid (IsObj wc bx [.int .i64 1, .int .i64 1, .int .i64 1, .int .i64 lo, .int .i64 hi]) := (Hold.has HH.out 3 _ rfl).1
              go_wp2_with fail
              refine wp_region_seqS ((fun w' => w'.cell? ⟨bx, 0, none⟩ = some (.int .i64 1) ∧ w'.cell? ⟨bx, 2, none⟩ = some (.int .i64 1) ∧ w'.cell? ⟨bx, 3, none⟩ = some (.int .i64 lo) ∧ w'.cell? ⟨bx, 4, none⟩ = some (.int .i64 hi))) ((0, true) :: (1, true) :: (2, true) :: (3, true) :: (4, true) :: (5, true) :: (6, true) :: (7, true) :: (8, true) :: (9, true) :: (10, true) :: (11, true) :: (12, false) :: (13, true) :: (14, true) :: []) (by kernel_rfl) (by kernel_rfl) (by kernel_rfl) (by decide) (fun _ _ _ _ _ h => h) (⟨HX.out.drew.at' 0 _ rfl, HX.out.drew.at' 2 _ rfl, HX.out.drew.at' 3 _ rfl, HX.out.drew.at' 4 _ rfl⟩) ?_
              replace HH := Lib.hid (Hold.drew HH.out)
              replace HX := Lib.hid HX.out.drew
              repeat (first | (refine seq_take (v := ?_) rfl ?_ ?_ ?_; rotate_left 1; rfl; (focus (intro wS hSw; obtain ⟨d0, d2, d3, d4⟩ := hSw; go_simp; first | done | with_reducible rfl)); (try simp only [Act.put, List.setIfInBounds_toArray, List.set_cons_zero, List.set_cons_succ])) | (refine seq_skip rfl ?_ ?_; rfl; (try simp only [Act.put, List.setIfInBounds_toArray, List.set_cons_zero, List.set_cons_succ])))
              refine seq_run rfl (fun K hK => ?_)
              go_simp
              go_at_call 37
              refine (pustamp_at lo hi HP1.out HLO.out HHI.out (Hold.has HH.out 1 _ rfl).1).mono ?_
              rintro r w7 ⟨rfl, hb7⟩
              (try go_wp2_with fail)
              replace HH := Lib.hid (Hold.later HH.out hb7)
              replace HX := Lib.hid (HX.out.later hb7)
              clear hb7
              refine hK.out _ _ (⟨HX.out.at' 0 _ rfl, HX.out.at' 2 _ rfl, HX.out.at' 3 _ rfl, HX.out.at' 4 _ rfl⟩) (fun _ => ?_)
              (try simp only [Act.put, List.setIfInBounds_toArray, List.set_cons_zero, List.set_cons_succ])
              clear hK K
              repeat (first | (refine seq_take (v := ?_) rfl ?_ ?_ ?_; rotate_left 1; rfl; (focus (intro wS hSw; obtain ⟨d0, d2, d3, d4⟩ := hSw; go_simp; first | done | with_reducible rfl)); (try simp only [Act.put, List.setIfInBounds_toArray, List.set_cons_zero, List.set_cons_succ])) | (refine seq_skip rfl ?_ ?_; rfl; (try simp only [Act.put, List.setIfInBounds_toArray, List.set_cons_zero, List.set_cons_succ])))
              refine seq_done ?_
              go_wp2_with fail
              go_roundw
              case rel => exact ⟨e + 1, now2, v', C', L', lo, hi, by omega, by have := Hnw.out; rw [Nat.mul_add, Nat.mul_one]; omega, by go_num, by go_num, Lib.hid (Hold.init (Hold.swap (Hold.less (l := [_, _, _]) (m := [_]) HH.out))), HO2, by have := HLL.out; have := HL.out; show _ ≤ _; omega⟩
              case measure => first | omega | (simp [intOf]; done) | (simp [intOf]; omega)
          · have hes : s ≤ (e : Int) := Int.not_lt.1 (fun hes => u1 ((m + e : Nat) : Int) (by omega) (by omega) (usable_zero (HO.out.zero e (Nat.le_refl _) hes)))
            have hp2 : k.ph = 2 := hS.ph.resolve_left hp0
            have HP2 := Lib.hid hp2
            have HO2 : Hid (Own1 C' t s so d who N m nb (e + 1) (now2 : Int) hi0) := by
              show Own1 _ _ _ _ _ _ _ _ _ _ _ _
              rw [hCC] at hnum ⊢
              exact HO.out.wait hes (by have := Hnw.out; omega) hnum
            clear hp0 hp2 u1 hS hCC hnum HS HR
            obtain ⟨q0, q1, q2, q3⟩ := HA.out.later HH.out.below Hs.out
            go_wp2_with fail
            refine (puphase_at 2 HP2.out HH.out.pu).mono ?_
            rintro r wr2 ⟨rfl, rfl⟩
            go_wp2_with fail
            go_roundw
            case rel => exact ⟨e + 1, now2, v', C', L', lo0, hi0, by omega, by have := Hnw.out; rw [Nat.mul_add, Nat.mul_one]; omega, by go_num, by go_num, Lib.hid (Hold.init (Hold.swap HH.out)), HO2, by have := HLL.out; have := HL.out; show _ ≤ _; omega⟩
            case measure => first | omega | (simp [intOf]; done) | (simp [intOf]; omega)
    · have hge' : ¬ (e : Int) < (len5 : Int) := by omega
      have hbf := Lib.hid (below_step' HB.out (Hold.below HH.out) HB.out.size)
      go_wp2
      go_ret
      exact ⟨rfl, hbf.out⟩

end Go.Proofs.Ytoogdfjlodchhaa
