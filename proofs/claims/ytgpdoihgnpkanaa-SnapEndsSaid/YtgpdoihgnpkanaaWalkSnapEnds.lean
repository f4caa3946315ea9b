/-
  SnapEnds answers true for all numbers and every list of turns, and leaves all memory that was there as it was. No condition.
-/
import Derived.Test.YtgpdoihgnpkanaaSnapLaw
import Derived.Deep.DeepCutAuto
namespace Go.Proofs.Ytgpdoihgnpkanaa
open Go.RowKit
set_option linter.unusedVariables false

set_option maxRecDepth 100000 in
set_option maxHeartbeats 1500000 in
theorem walk_SnapEnds (a0 : Int) (a1 : Int) (a2 : Int) (a3 : Int) (a4 : Option Addr) (len4 cap4 : Nat) (w : World) (w0 : (Lit.int .i64 a0).wf = true) (w1 : (Lit.int .i64 a1).wf = true) (w2 : (Lit.int .i64 a2).wf = true) (w3 : (Lit.int .i64 a3).wf = true) (w4 : IsRows w [.inl .i64, .inl .i64, .inl .u64] a4 len4 cap4) :
    Calls Try.prog 8 #[.int .i64 a0, .int .i64 a1, .int .i64 a2, .int .i64 a3, .slice a4 len4 cap4] w fun e w' => e = .returned (.bool true) ∧ Below w.heap.size w w' := by
  clear w0 w1 w2 w3
  by_cases hbig : 40 < len4
  · have hbig' : (40 : Int) < (len4 : Int) := by omega
    clear w4
    go_enter Try.func8, Try.ntmps8
    go_wp2_with fail
    refine (head7_any _).mono ?_
    rintro e w1 ⟨rfl, hb1⟩
    go_wp2_with fail
    go_ret
    exact ⟨rfl, hb1⟩
  have p0 : decide ((40 : Int) < (len4 : Int)) = false := decide_eq_false (by omega)
  have W4 := Lib.hid w4
  clear w4
  obtain ⟨u2, hu2, l2, g2⟩ : ∃ u, bits .and .i64 a2 65535 = u ∧ 0 ≤ u ∧ u ≤ 65535 := ⟨_, and_ffff a2, by omega, by omega⟩
  go_enter Try.func8, Try.ntmps8
  go_wp2_with fail
  refine (head7_any _).mono ?_
  rintro e w1 ⟨rfl, hb1⟩
  go_wp2_with fail
  refine (conf2_any _ _ _).mono ?_
  rintro e w2 ⟨t, s, rfl, t1, t2, s1, s2, hb2⟩
  have ht0 : (t == 0) = false := by simp; omega
  have hB2 := Lib.hid (below_step hb1 hb2)
  clear hb1 hb2
  obtain ⟨N, hNe, hlay, hN1, hN2⟩ := lay44 t1 t2 s1 s2
  have hn0 : ¬ N = 0 := by omega
  clear hNe
  go_wp2_with fail
  have hw0 := Int.emod_nonneg u2 (show t ≠ 0 by omega)
  have hw1 := Int.emod_lt_of_pos u2 (show 0 < t by omega)
  generalize u2 % t = who at hw0 hw1 ⊢
  clear hu2 l2 g2
  have hA := AtC.made w2 t s 0 0
  have hB3 := below_new (Below.refl w2.heap.size w2) (.cells #[.int .i64 t, .int .i64 s, .int .i64 0, .int .i64 0] 27)
  have hs3 : w2.heap.size < (w2.alloc (.cells #[.int .i64 t, .int .i64 s, .int .i64 0, .int .i64 0] 27)).heap.size := by simp
  have HA := Lib.hid hA
  have HB := Lib.hid (below_step hB2.out hB3)
  have Hs := Lib.hid hs3
  clear hA hB3 hs3 hB2
  generalize w2.alloc (.cells #[.int .i64 t, .int .i64 s, .int .i64 0, .int .i64 0] 27) = W at HA HB Hs ⊢
  generalize w2.heap.size = cb at HA Hs ⊢
  clear w2 w1
  refine (call_any t s 0 0 N _ hlay).mono ?_
  rintro r w1 ⟨rfl, hb1⟩
  obtain ⟨q0, q1, q2, q3⟩ := HA.out.later hb1 Hs.out
  go_wp2_with fail
  refine (ccells_any t s 0 0 N _ hlay).mono ?_
  rintro r w2 ⟨rfl, hb2⟩
  obtain ⟨M, hM⟩ : ∃ M : Nat, 2 * (N : Int) + 2 * t = (M : Int) := ⟨(2 * (N : Int) + 2 * t).toNat, by omega⟩
  have HM := Lib.hid hM
  rw [hM]
  clear hM q0 q1 q2 q3
  have hb12 := below_step hb1 hb2
  clear hb1 hb2
  go_wp2_with fail
  refine (new_nat W.heap.size M M _ hb12.size (by have := HM.out; omega) (.inl rfl)).mono ?_
  rintro r w3 ⟨p, c, rfl, hM3, hb3, hp, hc⟩
  have hb13 := below_step' hb12 hb3 hb12.size
  obtain ⟨q0, q1, q2, q3⟩ := HA.out.later hb13 Hs.out
  go_wp2_with fail
  refine (snnew_any W.heap.size _ t s 0 0 who a3 N N hlay rfl hb13.size).mono ?_
  rintro r w4 ⟨b, g, rfl, hS4, hb4, hbb, hbg⟩
  obtain ⟨st, hst, hst2⟩ : ∃ st : Nat, IntKind.u64.wrap a3 % (N : Int) = (st : Int) ∧ st < N := by
    have h := start_mod a3 N hN1 (by omega)
    exact ⟨(IntKind.u64.wrap a3 % (N : Int)).toNat, by omega, by omega⟩
  rw [hst] at hS4
  have hH := SnapHold.begun hb12 hM3 hb3 hp hc hb4 hS4 hbb hbg
  have HH := Lib.hid hH
  have HN0 := Lib.hid (Snap.start t s 0 0 who (List.replicate M 0) N st 0 hst2)
  have HE0 : Hid (SnSame (sn0 t s 0 0 who st N) (sn0 t s 0 0 who st N)) := ⟨rfl, rfl, rfl, rfl, rfl⟩
  have HL0 : Hid ((List.replicate M (0 : Int)).length = M) := List.length_replicate
  clear hH hS4 hb4 hbb hbg hM3 hb3 hp hc hb12 hb13 q0 q1 q2 q3
  obtain ⟨tb, off, X, HX⟩ := rows_turn7' W4.out
  go_wp2_with fail
  go_loopw [15, 16, 17] (fun vt vl i wr => ∃ (n tu : Nat) (last : Int) (v : Value) (C : List Int) (L : List Ev) (k : Sn), n ≤ 100 * N ∧ i = .int .i64 n ∧ vt = .int .i64 tu ∧ vl = .int .i64 last ∧ Hid (SnapHold W wr p c v C L b g k []) ∧ Hid (Snap k C N st n (2 * tu) last) ∧ Hid (SnSame (sn0 t s 0 0 who st N) k) ∧ Hid (C.length = M) ∧ Hid (L.length ≤ 41 * n) ∧ Hid (tu ≤ cnt (fun q => (X q).1) n len4)) (fun _ _ i _ => 100 * N - (intOf i).toNat)
  case atStart => exact ⟨0, 0, -1, _, _, _, _, by omega, rfl, rfl, rfl, HH, HN0, HE0, HL0, Nat.zero_le _, Nat.zero_le _⟩
  case round =>
    clear HH HN0 HE0 HL0
    obtain ⟨n, tu, last, v, C, L, k, hn, rfl, rfl, rfl, HH, HN, HE, HC, HL, HT⟩ := hrel
    have hcn := cnt_le (fun q => (X q).1) n len4
    have htu : tu ≤ 40 := by have := HT.out; omega
    have hN100 : 100 * (N : Int) ≤ 1600 := by omega
    rcases HN.out.cases with ⟨hp, hlt⟩ | ⟨hp, P, hP, hpa, hP2, hP3, hx⟩
    · have hlt2 : n < 82 * N := Nat.lt_of_lt_of_le hlt (Nat.mul_le_mul_right N (by omega))
      have hlt3 : (n : Int) < 100 * (N : Int) := by omega
      have HP := Lib.hid hp
      clear hp hlt hlt2 hcn
      go_wp2_with fail
      refine (snphase_any W.heap.size _ b g k HH.out.sn).mono ?_
      rintro r w' ⟨rfl, rfl⟩
      rw [HP.out]
      go_wp2_with fail
      obtain ⟨wo, rfl⟩ : ∃ wo : World, wo = wr := ⟨_, rfl⟩
      obtain ⟨Pd, hPd⟩ : ∃ Pd : Nat, n / N = Pd := ⟨_, rfl⟩
      have hdiv : (n : Int) / (N : Int) = (Pd : Int) := by rw [← hPd]; exact (Int.natCast_ediv n N).symm
      have hPb : Pd ≤ 100 := by rw [← hPd]; exact Nat.div_le_of_le_mul (by rw [Nat.mul_comm]; exact hn)
      have HPD := Lib.hid hPd
      clear hPd
      have HC0 : Hid ((tu ≤ cnt (fun q => (X q).1) n len4) ∨ (last = (Pd : Int) ∧ tu ≤ cnt (fun q => (X q).1) (n + 1) len4)) := .inl HT.out
      go_loopw [15, 16, 53] (fun vt vl j wr => ∃ (q tu : Nat) (last : Int) (v : Value) (C : List Int) (L : List Ev), q ≤ len4 ∧ j = .int .i64 q ∧ vt = .int .i64 tu ∧ vl = .int .i64 last ∧ tu ≤ 40 ∧ Hid (SnapHold W wr p c v C L b g k []) ∧ Hid (Snap k C N st n (2 * tu) last) ∧ Hid (C.length = M) ∧ Hid (L.length ≤ 41 * n + q) ∧ Hid ((tu ≤ cnt (fun q => (X q).1) n len4) ∨ (last = (Pd : Int) ∧ tu ≤ cnt (fun q => (X q).1) (n + 1) len4))) (fun _ _ j _ => len4 - (intOf j).toNat)
      case atStart => exact ⟨0, _, _, _, _, _, by omega, rfl, rfl, rfl, htu, HH, HN, HC, by have := HL.out; show _ ≤ _; omega, HC0⟩
      case round =>
        clear HH HN HC HL HT HC0
        obtain ⟨q, tu, last, v, C, L, hq, rfl, rfl, rfl, htu, HH, HN, HC, HL, HT⟩ := hrel
        rcases Nat.lt_or_ge q len4 with hql | hql
        · obtain ⟨rfl, hcap, htb, hx0, hx1, hx2, z0, z1⟩ := HX q hql
          have hwW : Below w.heap.size w wr := below_step' HB.out HH.out.below HB.out.size
          have gx0 := (hwW.cell (p := ⟨tb, _, none⟩) htb).trans hx0
          have gx1 := (hwW.cell (p := ⟨tb, _, none⟩) htb).trans hx1
          have gx2 := (hwW.cell (p := ⟨tb, _, none⟩) htb).trans hx2
          obtain ⟨th, hth⟩ : ∃ th, (X q).1 = th := ⟨_, rfl⟩
          have HTH := Lib.hid hth
          rw [hth] at gx0
          generalize (X q).2.1 = sl at gx1
          generalize (X q).2.2 = x at gx2 z0 z1
          have hql' : (q : Int) < (len4 : Int) := by omega
          clear hx0 hx1 hx2 hwW hth HX
          by_cases he : th = (n : Int)
          · have qe : (th == (n : Int)) = true := by simp [he]
            have HE1 := Lib.hid he
            obtain ⟨u5, hu5, l5, g5⟩ : ∃ u, bits .and .i64 sl 65535 = u ∧ 0 ≤ u ∧ u ≤ 65535 := ⟨_, and_ffff sl, by omega, by omega⟩
            obtain ⟨j, hj, hjN⟩ : ∃ j : Nat, u5.tmod (N : Int) = (j : Int) ∧ j < N := by
              have h1 := Int.emod_nonneg u5 (show (N : Int) ≠ 0 by omega)
              have h2 := Int.emod_lt_of_pos u5 (show (0 : Int) < (N : Int) by omega)
              rw [Int.tmod_eq_emod_of_nonneg l5]
              exact ⟨(u5 % (N : Int)).toNat, by omega, by omega⟩
            have HJ : Hid (j < C.length) := by have := HC.out; have := HM.out; show _ < _; omega
            clear he
            go_wp2_with fail
            have HCT := Lib.hid (AtCT7.made (HA.out.later HH.out.below Hs.out) th sl x 67)
            have HH1 := Lib.hid (HH.out.later (below_new (Below.refl _ _) (.cells #[i64 th, i64 sl, .int .u64 x] 67)))
            have hnb : ¬ Foot p c v wr.heap.size := fun hf => by have := (HH.out.mem.foot _ hf).2; omega
            have hcf : ¬ Foot p c v cb := fun hf => by have := (HH.out.mem.foot _ hf).1; have := Hs.out; omega
            have HNB := Lib.hid hnb
            have HCF := Lib.hid hcf
            clear gx0 gx1 gx2 hnb hcf
            refine wp_region_seqS ((AtCT7 cb wr.heap.size t s sl x)) ((0, true) :: (1, true) :: (2, true) :: (3, true) :: (4, true) :: (5, true) :: (6, true) :: (8, true) :: (9, true) :: (7, false) :: (10, false) :: []) (by kernel_rfl) (by kernel_rfl) (by kernel_rfl) (by decide) (fun _ _ _ _ _ h => h) ((HCT.out.later (Below.refl _ _).drew)) ?_
            replace HCT := Lib.hid (HCT.out.later (Below.refl _ _).drew)
            replace HH1 := Lib.hid HH1.out.drew
            repeat (first | (refine seq_take (v := ?_) rfl ?_ ?_ ?_; rotate_left 1; rfl; (focus (intro wS hSw; obtain ⟨⟨k0, k1, k2, k3⟩, kx, ky⟩ := hSw; go_simp; first | done | with_reducible rfl)); (try simp only [Act.put, List.setIfInBounds_toArray, List.set_cons_zero, List.set_cons_succ])) | (refine seq_skip rfl ?_ ?_; rfl; (try simp only [Act.put, List.setIfInBounds_toArray, List.set_cons_zero, List.set_cons_succ])))
            refine seq_run rfl (fun K hK => ?_)
            go_simp
            (try rw [hj])
            go_at_call 20
            refine (cword_any _ _ _ _ _ _).mono ?_
            rintro r w5 ⟨rfl, hb5⟩
            (try go_wp2_with fail)
            replace HCT := Lib.hid (HCT.out.later hb5)
            replace HH1 := Lib.hid (HH1.out.later hb5)
            clear hb5
            refine hK.out _ _ (HCT.out) (fun _ => ?_)
            (try simp only [Act.put, List.setIfInBounds_toArray, List.set_cons_zero, List.set_cons_succ])
            clear hK K
            repeat (first | (refine seq_take (v := ?_) rfl ?_ ?_ ?_; rotate_left 1; rfl; (focus (intro wS hSw; obtain ⟨⟨k0, k1, k2, k3⟩, kx, ky⟩ := hSw; go_simp; first | done | with_reducible rfl)); (try simp only [Act.put, List.setIfInBounds_toArray, List.set_cons_zero, List.set_cons_succ])) | (refine seq_skip rfl ?_ ?_; rfl; (try simp only [Act.put, List.setIfInBounds_toArray, List.set_cons_zero, List.set_cons_succ])))
            refine seq_run rfl (fun K hK => ?_)
            go_simp
            go_at_call 29
            refine (store_in W.heap.size _ p c _ _ _ (-1) j _ x HH1.out.mem (getD_at HJ.out) HH1.out.size (by have := HL.out; omega) z0 z1).mono ?_
            rintro r w7 ⟨rfl, v7, hT7⟩
            (try go_wp2_with fail)
            replace HCT := Lib.hid (HCT.out.keep hT7.keep HCF.out HNB.out)
            have HH7 := Lib.hid (HH1.out.store hT7)
            clear hT7 HH1
            refine hK.out _ _ (HCT.out) (fun _ => ?_)
            (try simp only [Act.put, List.setIfInBounds_toArray, List.set_cons_zero, List.set_cons_succ])
            clear hK K
            repeat (first | (refine seq_take (v := ?_) rfl ?_ ?_ ?_; rotate_left 1; rfl; (focus (intro wS hSw; obtain ⟨⟨k0, k1, k2, k3⟩, kx, ky⟩ := hSw; go_simp; first | done | with_reducible rfl)); (try simp only [Act.put, List.setIfInBounds_toArray, List.set_cons_zero, List.set_cons_succ])) | (refine seq_skip rfl ?_ ?_; rfl; (try simp only [Act.put, List.setIfInBounds_toArray, List.set_cons_zero, List.set_cons_succ])))
            refine seq_done ?_
            clear HCT HCF HNB
            have HN7 := HN.out.store HP.out (C.set j x)
            rw [HPD.out] at HN7
            have HC7 : Hid ((C.set j x).length = M) := by show _ = _; rw [List.length_set]; exact HC.out
            have HL7 : ∀ e : Ev, Hid ((L ++ [e]).length ≤ 41 * n + (q + 1)) := fun e => by show _ ≤ _; rw [List.length_append]; have := HL.out; simp; omega
            by_cases hl : last = (Pd : Int)
            · rw [if_pos hl] at HN7
              have HN8 := Lib.hid HN7
              have ql : ((Pd : Int) != last) = false := by simp [hl]
              have HT7 : Hid ((tu ≤ cnt (fun q => (X q).1) n len4) ∨ ((Pd : Int) = (Pd : Int) ∧ tu ≤ cnt (fun q => (X q).1) (n + 1) len4)) := by
                rcases HT.out with h | ⟨_, h⟩
                · exact .inl h
                · exact .inr ⟨rfl, h⟩
              subst hl
              clear HN7
              go_wp2_with fail
              go_roundw
              case rel => exact ⟨q + 1, tu, _, v7, _, _, by omega, by go_num, rfl, rfl, htu, HH7, HN8, HC7, HL7 _, HT7⟩
              case measure => simp [intOf]; omega
            · rw [if_neg hl] at HN7
              have HN8 : Hid (Snap k (C.set j x) N st n (2 * (tu + 1)) (Pd : Int)) := HN7
              have ql : ((Pd : Int) != last) = true := by simp; exact fun e => hl e.symm
              have h1 : tu + 1 ≤ cnt (fun q => (X q).1) (n + 1) len4 := by
                rcases HT.out with h | ⟨h, _⟩
                · have := cnt_one (fun q => (X q).1) n (by omega) q (HTH.out.trans HE1.out) len4 hql
                  omega
                · exact absurd h hl
              have h2 := cnt_le (fun q => (X q).1) ((n : Int) + 1) len4
              have htu2 : tu + 1 ≤ 40 := by omega
              have HT7 : Hid ((tu + 1 ≤ cnt (fun q => (X q).1) n len4) ∨ ((Pd : Int) = (Pd : Int) ∧ tu + 1 ≤ cnt (fun q => (X q).1) (n + 1) len4)) := .inr ⟨rfl, h1⟩
              clear HN7 h1 h2 hl
              go_wp2_with fail
              go_roundw
              case rel => exact ⟨q + 1, tu + 1, (Pd : Int), v7, _, _, by omega, by go_num, by go_num, rfl, htu2, HH7, HN8, HC7, HL7 _, HT7⟩
              case measure => simp [intOf]; omega
          · have qe : (th == (n : Int)) = false := by simp [he]
            have HH1 := Lib.hid (HH.out.later (below_new (Below.refl _ _) (.cells #[i64 th, i64 sl, .int .u64 x] 67)))
            clear he
            go_wp2_with fail
            go_roundw
            case rel => exact ⟨q + 1, tu, last, v, _, _, by omega, by go_num, rfl, rfl, htu, HH1, HN, HC, by have := HL.out; show _ ≤ _; omega, HT⟩
            case measure => simp [intOf]; omega
        · have hok := HN.out.ok (t := t) (s := s) HE.out rfl rfl hlay rfl (by have := HC.out; have := HM.out; omega) (by omega)
          have HST := Lib.hid (HH.out.call hok (by have := HL.out; omega))
          have HN2 := Lib.hid (HN.out.step HP.out)
          have HE2 := Lib.hid (HE.out.trans (Snap.same C k))
          have HT2 : Hid (tu ≤ cnt (fun q => (X q).1) ((n + 1 : Nat) : Int) len4) := by
            have := cnt_mono (fun q => (X q).1) n len4
            rcases HT.out with h | ⟨_, h⟩
            · exact Nat.le_trans h this
            · exact h
          have hqe : ¬ (q : Int) < (len4 : Int) := by omega
          clear hok HN HE
          go_wp2_with fail
          refine HST.out.mono ?_
          rintro r w4 ⟨rfl, v4, hH4⟩
          have HH4 := Lib.hid hH4
          clear hH4
          go_wp2_with fail
          go_roundw
          case rel => exact ⟨n + 1, tu, last, v4, _, _, _, by omega, by go_num, rfl, rfl, HH4, HN2, HE2, HC, by show _ ≤ _; rw [List.length_append]; have := HL.out; have := Sn.ev_le k C; omega, HT2⟩
          case measure => simp [intOf]; omega
    · have hxs := HN.out.X
      have HP := Lib.hid hp
      have HPA := Lib.hid hpa
      have hPN : P * N = n := hP.symm
      have hPb : P ≤ 82 := by omega
      obtain ⟨Q, hQ⟩ : ∃ Q : Nat, (2 * tu + 2) * N = Q := ⟨_, rfl⟩
      have hnQ : n ≤ Q := by rw [← hQ, hP]; exact Nat.mul_le_mul_right N hP3
      have hQb : Q ≤ 82 * 16 := by rw [← hQ]; exact Nat.mul_le_mul (by omega) hN2
      have hm1 : wrap64 ((P : Int) * (N : Int)) = (n : Int) := by rw [← Int.natCast_mul, hPN]; unfold wrap64; omega
      have hm2 : wrap64 ((2 * (tu : Int) + 2) * (N : Int)) = (Q : Int) := by
        rw [show (2 * (tu : Int) + 2) * (N : Int) = (((2 * tu + 2) * N : Nat) : Int) by rw [Int.natCast_mul]; rfl, hQ]
        unfold wrap64
        omega
      clear hp hpa hx HN hcn hP hP2 hP3 hPN hQ hPb hQb
      go_wp2_with fail
      refine (snphase_any W.heap.size _ b g k HH.out.sn).mono ?_
      rintro r w' ⟨rfl, rfl⟩
      rw [HP.out]
      go_wp2_with fail
      refine (snphase_any W.heap.size _ b g k HH.out.sn).mono ?_
      rintro r w' ⟨rfl, rfl⟩
      rw [HP.out]
      go_wp2_with fail
      refine (snpasses_any W.heap.size _ b g k HH.out.sn).mono ?_
      rintro r w' ⟨rfl, rfl⟩
      rw [HPA.out]
      have hbf := Lib.hid (below_step' HB.out HH.out.below HB.out.size)
      go_wp2
      go_ret
      exact ⟨rfl, hbf.out⟩

end Go.Proofs.Ytgpdoihgnpkanaa
