/-
  SnapOnes answers true for all numbers and every list of turns, and leaves all memory that was there as it was. No condition.
-/
import Derived.Test.YtgpdoihgnpkanaaSnapPure2
import Derived.Test.YtgpdoihgnpkanaaRows2
import Derived.Deep.DeepCutAuto
namespace Go.Proofs.Ytgpdoihgnpkanaa
open Go.RowKit
set_option linter.unusedVariables false

set_option maxRecDepth 100000 in
set_option maxHeartbeats 8000000 in
theorem walk_SnapOnes (a0 : Int) (a1 : Int) (a2 : Int) (a3 : Int) (a4 : Option Addr) (len4 cap4 : Nat) (w : World) (w0 : (Lit.int .i64 a0).wf = true) (w1 : (Lit.int .i64 a1).wf = true) (w2 : (Lit.int .i64 a2).wf = true) (w3 : (Lit.int .i64 a3).wf = true) (w4 : IsRows w [.inl .i64, .inl .i64, .inl .u64] a4 len4 cap4) :
    Calls Try.prog 7 #[.int .i64 a0, .int .i64 a1, .int .i64 a2, .int .i64 a3, .slice a4 len4 cap4] w fun e w' => e = .returned (.bool true) ∧ Below w.heap.size w w' := by
  clear w0 w1 w2 w3
  by_cases hbig : 40 < len4
  · have hbig' : (40 : Int) < (len4 : Int) := by omega
    clear w4
    go_enter Try.func7, Try.ntmps7
    go_wp2_with fail
    refine (head7_any _).mono ?_
    rintro e w1 ⟨rfl, hb1⟩
    go_wp2_with fail
    go_ret
    exact ⟨rfl, hb1⟩
  have p0 : decide ((40 : Int) < (len4 : Int)) = false := decide_eq_false (by omega)
  have W4 := Lib.hid w4
  clear w4
  obtain ⟨u2, hu2, l2, g2⟩ : ∃ u, bits .and .i64 a2 65535 = u ∧ 0 ≤ u ∧ u ≤ 65535 := ⟨_, and_ffff a2, by omega, by omega⟩
  go_enter Try.func7, Try.ntmps7
  go_wp2_with fail
  refine (head7_any _).mono ?_
  rintro e w1 ⟨rfl, hb1⟩
  go_wp2_with fail
  refine (conf2_any _ _ _).mono ?_
  rintro e w2 ⟨t, s, rfl, t1, t2, s1, s2, hb2⟩
  have ht0 : (t == 0) = false := by simp; omega
  have hB2 := Lib.hid (below_step hb1 hb2)
  clear hb1 hb2
  obtain ⟨N, hNe, hlay, hN1, hN2⟩ := lay44 t1 t2 s1 s2
  have hn0 : ¬ N = 0 := by omega
  clear hNe
  go_wp2_with fail
  have hw0 := Int.emod_nonneg u2 (show t ≠ 0 by omega)
  have hw1 := Int.emod_lt_of_pos u2 (show 0 < t by omega)
  generalize u2 % t = who at hw0 hw1 ⊢
  clear hu2 l2 g2
  have hA := AtC.made w2 t s 0 0
  have hB3 := below_new (Below.refl w2.heap.size w2) (.cells #[.int .i64 t, .int .i64 s, .int .i64 0, .int .i64 0] 27)
  have hs3 : w2.heap.size < (w2.alloc (.cells #[.int .i64 t, .int .i64 s, .int .i64 0, .int .i64 0] 27)).heap.size := by simp
  have HA := Lib.hid hA
  have HB := Lib.hid (below_step hB2.out hB3)
  have Hs := Lib.hid hs3
  clear hA hB3 hs3 hB2
  generalize w2.alloc (.cells #[.int .i64 t, .int .i64 s, .int .i64 0, .int .i64 0] 27) = W at HA HB Hs ⊢
  generalize w2.heap.size = cb at HA Hs ⊢
  clear w2 w1
  refine (call_any t s 0 0 N _ hlay).mono ?_
  rintro r w1 ⟨rfl, hb1⟩
  obtain ⟨q0, q1, q2, q3⟩ := HA.out.later hb1 Hs.out
  go_wp2_with fail
  refine (ccells_any t s 0 0 N _ hlay).mono ?_
  rintro r w2 ⟨rfl, hb2⟩
  obtain ⟨M, hM⟩ : ∃ M : Nat, 2 * (N : Int) + 2 * t = (M : Int) := ⟨(2 * (N : Int) + 2 * t).toNat, by omega⟩
  have HM := Lib.hid hM
  rw [hM]
  clear hM q0 q1 q2 q3
  have hb12 := below_step hb1 hb2
  clear hb1 hb2
  go_wp2_with fail
  refine (new_nat W.heap.size M M _ hb12.size (by have := HM.out; omega) (.inl rfl)).mono ?_
  rintro r w3 ⟨p, c, rfl, hM3, hb3, hp, hc⟩
  have hb13 := below_step' hb12 hb3 hb12.size
  obtain ⟨q0, q1, q2, q3⟩ := HA.out.later hb13 Hs.out
  go_wp2_with fail
  refine (snnew_any W.heap.size _ t s 0 0 who a3 N N hlay rfl hb13.size).mono ?_
  rintro r w4 ⟨b, g, rfl, hS4, hb4, hbb, hbg⟩
  obtain ⟨st, hst, hst2⟩ : ∃ st : Nat, IntKind.u64.wrap a3 % (N : Int) = (st : Int) ∧ st < N := by
    have h := start_mod a3 N hN1 (by omega)
    exact ⟨(IntKind.u64.wrap a3 % (N : Int)).toNat, by omega, by omega⟩
  rw [hst] at hS4
  have hH := SnapHold.begun hb12 hM3 hb3 hp hc hb4 hS4 hbb hbg
  have HH := Lib.hid hH
  have HN0 := Lib.hid (Snap.start t s 0 0 who (List.replicate M 0) N st 0 hst2)
  have HE0 : Hid (SnSame (sn0 t s 0 0 who st N) (sn0 t s 0 0 who st N)) := ⟨rfl, rfl, rfl, rfl, rfl⟩
  have HL0 : Hid ((List.replicate M (0 : Int)).length = M) := List.length_replicate
  clear hH hS4 hb4 hbb hbg hM3 hb3 hp hc hb12 hb13 q0 q1 q2 q3
  obtain ⟨tb, off, X, HX⟩ := rows_turn7' W4.out
  go_wp2_with fail
  have HR0 := Lib.hid (HH.out.more (below_new (Below.refl _ _) (.cells #[] 44)) (tRow_ok _ _ _ _ _ _) (tRow_made _ _ 44 1 HH.out.size) tRow_new)
  have HO0 : Hid (Ones (sn0 t s 0 0 who st N) (List.replicate M 0) N st 0 (2 * 0) (-1) []) := .inl ⟨0, 0, by omega, QInv.start t s 0 0 who (List.replicate M 0) N st 0 hst2, fun j _ => by rw [zeros]; exact Int.le_of_eq (zeros N j), fun h => by omega⟩
  have HF0 : Hid (∀ e, (List.replicate M (0 : Int)).getD e 0 < 1) := fun e => by rw [zeros]; decide
  clear HH HN0
  go_loopw [15, 16, 17] (fun vb vf i wr => ∃ (n tu fr : Nat) (last : Int) (v : Value) (C : List Int) (L : List Ev) (k : Sn) (F : List Int), n ≤ 100 * N ∧ i = .int .i64 n ∧ vf = .int .u64 fr ∧ 1 ≤ fr ∧ fr ≤ 1 + 40 * n ∧ Hid (SnapHold W wr p c v C L b g k [tRow W.heap.size 44 1 vb F.length (F.map (Value.int .u64))]) ∧ Hid (Ones k C N st n (2 * tu) last F) ∧ Hid (SnSame (sn0 t s 0 0 who st N) k) ∧ Hid (C.length = M) ∧ Hid (L.length ≤ 41 * n) ∧ Hid (tu ≤ cnt (fun q => (X q).1) n len4) ∧ Hid (∀ e, C.getD e 0 < (fr : Int)) ∧ Hid (F.length = N ∨ n = 0)) (fun _ _ i _ => 100 * N - (intOf i).toNat)
  case atStart => exact ⟨0, 0, 1, -1, _, _, _, _, [], by omega, rfl, rfl, by omega, by omega, HR0, HO0, HE0, HL0, Nat.zero_le _, Nat.zero_le _, HF0, .inr rfl⟩
  case round =>
    clear HR0 HO0 HE0 HL0 HF0
    obtain ⟨n, tu, fr, last, v, C, L, k, F, hn, rfl, rfl, hf1, hf2, HH, HO, HE, HC, HL, HT, HF, HN⟩ := hrel
    have hcn := cnt_le (fun q => (X q).1) n len4
    have htu : tu ≤ 40 := by have := HT.out; omega
    have hN100 : 100 * (N : Int) ≤ 1600 := by omega
    rcases HO.out.cases with ⟨hlt, P, r, hPr, hQ, hle, hri⟩ | ⟨hp, hXl, hkN, hnN, hlt, hx⟩
    · have hlt2 : n < 82 * N := Nat.lt_of_lt_of_le hlt (Nat.mul_le_mul_right N (by omega))
      have hlt3 : (n : Int) < 100 * (N : Int) := by omega
      have HP := Lib.hid hQ.ph
      have hrN := hQ.at'.r1
      have hmod : (n : Int) % (N : Int) = (r : Int) := by
        rw [← Int.natCast_emod, hPr, Nat.add_comm, Nat.add_mul_mod_self_right, Nat.mod_eq_of_lt hrN]
      have hPb : P ≤ 82 := by have := hQ.c3; omega
      have HPR := Lib.hid hPr
      have HQ := Lib.hid hQ
      clear hlt hlt2 hcn hPr hQ
      rcases Nat.eq_zero_or_pos r with hr0 | hr0
      · subst hr0
        have HLE := Lib.hid hle
        have hmod0 : (n : Int) % (N : Int) = 0 := hmod
        clear hle hri hrN hmod
        go_wp2_with fail
        refine (snphase_any W.heap.size _ b g k HH.out.sn).mono ?_
        rintro r w' ⟨rfl, rfl⟩
        rw [HP.out]
        go_wp2_with fail
        have HH2 : Hid (SnapHold W (wr.alloc (.cells #[] 44)) p c v C L b g k [tRow W.heap.size 44 1 (.slice (some ⟨wr.heap.size, 0, none⟩) 0 0) 0 []]) :=
          SnapHold.more (R := []) (Hold.less (l := [tMem W.heap.size p c v C L, tSn W.heap.size b g k]) HH.out) (below_new (Below.refl _ _) (.cells #[] 44)) (tRow_ok _ _ _ _ _ _) (tRow_made _ _ 44 1 HH.out.size) tRow_new
        clear HH HN HO hmod0
        obtain ⟨wo, rfl⟩ : ∃ wo : World, wo = wr := ⟨_, rfl⟩
        go_loopw [15, 18] (fun vb j wr => ∃ (e : Nat) (F : List Int), e ≤ N ∧ j = .int .i64 e ∧ Hid (SnapHold W wr p c v C L b g k [tRow W.heap.size 44 1 vb e (F.map (Value.int .u64))]) ∧ Hid (F.length = e ∧ ∀ j, j < e → F.getD j 0 = C.getD j 0)) (fun _ j _ => N - (intOf j).toNat)
        case atStart => exact ⟨0, [], by omega, rfl, HH2, rfl, fun j hj => by omega⟩
        case round =>
          clear HH2
          obtain ⟨e, F, he, rfl, HH, HFe⟩ := hrel
          rcases Nat.lt_or_ge e N with heN | heN
          · obtain ⟨q0, q1, q2, q3⟩ := HA.out.later HH.out.below Hs.out
            have heN' : (e : Int) < (N : Int) := by omega
            go_wp2_with fail
            refine (cword_any _ _ _ _ _ _).mono ?_
            rintro r w5 ⟨rfl, hb5⟩
            have HH5 := Lib.hid (HH.out.later hb5)
            clear hb5 q0 q1 q2 q3
            go_wp2_with fail
            refine (peek_in W.heap.size _ p c _ _ _ e _ HH5.out.mem (getD_at (by have := HC.out; have := HM.out; omega))).mono ?_
            rintro r w' ⟨rfl, rfl⟩
            have HRW : Hid (World.ownsRow _ _ _ _ _ _ _) := Hold.has HH5.out 2 _ rfl
            obtain ⟨A, cap, rfl⟩ := own_shape HRW.out
            go_wp2_with (at_builtin; refine list_append_grew rfl _ _ 65 rfl W.heap.size 44 _ 1 8 elem_u64 (.slice A e cap) e (F.map (Value.int .u64)) rfl (Hold.has (Hold.later HH5.out (below_new (Below.refl _ _) (.cells #[.int .u64 (C.getD e 0)] 44))) 2 _ rfl) (some ⟨_, 0, none⟩) 1 1 [.int .u64 (C.getD e 0)] rfl (src_list w5 [.int .u64 (C.getD e 0)] 44 1 1 rfl (one_int _ _)) (by unfold maxLen; omega) (by omega) ((Hold.later HH5.out (below_new (Below.refl _ _) _)).size) ?_; intro vb' w8 hG; have HH8 := Lib.hid ((Hold.later HH5.out (below_new (Below.refl _ _) (.cells #[.int .u64 (C.getD e 0)] 44))).append 2 rfl rfl hG); clear hG)
            go_roundw
            case rel => exact ⟨e + 1, F ++ [C.getD e 0], by omega, by go_num, by rw [List.map_append]; exact HH8, by rw [List.length_append, HFe.out.1]; rfl, fun j hj => by
              rw [List.getD_eq_getElem?_getD, List.getElem?_append]
              split
              · rw [← List.getD_eq_getElem?_getD]
                exact HFe.out.2 j (by have := HFe.out.1; omega)
              · have : j = e := by have := HFe.out.1; omega
                subst this
                rw [HFe.out.1, Nat.sub_self]
                rfl⟩
            case measure => simp [intOf]; omega
          · obtain rfl : N = e := by omega
            have hnn : ¬ (N : Int) < (N : Int) := by omega
            have HR : Hid (Rise k C N st 0 F) := Rise.begin HLE.out HFe.out.2
            have HFN := Lib.hid HFe.out.1
            clear HFe HLE
            go_wp2_with fail
            obtain ⟨wo, rfl⟩ : ∃ wo : World, wo = wr := ⟨_, rfl⟩
            have HC0 : Hid ((tu ≤ cnt (fun q => (X q).1) n len4) ∨ (last = (P : Int) ∧ tu ≤ cnt (fun q => (X q).1) (n + 1) len4)) := .inl HT.out
            go_loopw [16, 77] (fun vf j wr => ∃ (q tu fr : Nat) (last : Int) (v : Value) (C : List Int) (L : List Ev), q ≤ len4 ∧ j = .int .i64 q ∧ vf = .int .u64 fr ∧ tu ≤ 40 ∧ 1 ≤ fr ∧ fr ≤ 1 + 40 * n + q ∧ Hid (SnapHold W wr p c v C L b g k [tRow W.heap.size 44 1 u15 N (F.map (Value.int .u64))]) ∧ Hid (QInv k C N st 0 P (2 * tu) last) ∧ Hid (Rise k C N st 0 F) ∧ Hid (C.length = M) ∧ Hid (L.length ≤ 41 * n + q) ∧ Hid ((tu ≤ cnt (fun q => (X q).1) n len4) ∨ (last = (P : Int) ∧ tu ≤ cnt (fun q => (X q).1) (n + 1) len4)) ∧ Hid (∀ e, C.getD e 0 < (fr : Int))) (fun _ j _ => len4 - (intOf j).toNat)
            case atStart => exact ⟨0, _, _, _, _, _, _, by omega, rfl, rfl, htu, hf1, by omega, HH, HQ, HR, HC, by have := HL.out; show _ ≤ _; omega, HC0, HF⟩
            case round =>
              clear HH HQ HR HC HL HT HC0 HF
              obtain ⟨q, tu, fr, last, v, C, L, hq, rfl, rfl, htu, hf1, hf2, HH, HQ, HR, HC, HL, HT, HF⟩ := hrel
              rcases Nat.lt_or_ge q len4 with hql | hql
              · obtain ⟨rfl, hcap, htb, hx0, hx1, hx2, z0, z1⟩ := HX q hql
                have hwW : Below w.heap.size w wr := below_step' HB.out HH.out.below HB.out.size
                have gx0 := (hwW.cell (p := ⟨tb, _, none⟩) htb).trans hx0
                have gx1 := (hwW.cell (p := ⟨tb, _, none⟩) htb).trans hx1
                have gx2 := (hwW.cell (p := ⟨tb, _, none⟩) htb).trans hx2
                obtain ⟨th, hth⟩ : ∃ th, (X q).1 = th := ⟨_, rfl⟩
                have HTH := Lib.hid hth
                rw [hth] at gx0
                generalize (X q).2.1 = sl at gx1
                generalize (X q).2.2 = x at gx2 z0 z1
                have hql' : (q : Int) < (len4 : Int) := by omega
                clear hx0 hx1 hx2 hwW hth HX
                by_cases he : th = (n : Int)
                · have qe : (th == (n : Int)) = true := by simp [he]
                  have HE1 := Lib.hid he
                  obtain ⟨u5, hu5, l5, g5⟩ : ∃ u, bits .and .i64 sl 65535 = u ∧ 0 ≤ u ∧ u ≤ 65535 := ⟨_, and_ffff sl, by omega, by omega⟩
                  obtain ⟨j, hj, hjN⟩ : ∃ j : Nat, u5.tmod (N : Int) = (j : Int) ∧ j < N := by
                    have h1 := Int.emod_nonneg u5 (show (N : Int) ≠ 0 by omega)
                    have h2 := Int.emod_lt_of_pos u5 (show (0 : Int) < (N : Int) by omega)
                    rw [Int.tmod_eq_emod_of_nonneg l5]
                    exact ⟨(u5 % (N : Int)).toNat, by omega, by omega⟩
                  have HJ : Hid (j < C.length) := by have := HC.out; have := HM.out; show _ < _; omega
                  clear he
                  go_wp2_with fail
                  have HCT := Lib.hid (AtCT7.made (HA.out.later HH.out.below Hs.out) th sl x 67)
                  have HH1 := Lib.hid (HH.out.later (below_new (Below.refl _ _) (.cells #[i64 th, i64 sl, .int .u64 x] 67)))
                  have hnb : ¬ Foot p c v wr.heap.size := fun hf => by have := (HH.out.mem.foot _ hf).2; omega
                  have hcf : ¬ Foot p c v cb := fun hf => by have := (HH.out.mem.foot _ hf).1; have := Hs.out; omega
                  have HNB := Lib.hid hnb
                  have HCF := Lib.hid hcf
                  clear gx0 gx1 gx2 hnb hcf
                  refine wp_region_seqS ((AtCT7 cb wr.heap.size t s sl x)) ((0, true) :: (1, true) :: (2, true) :: (3, true) :: (4, true) :: (5, true) :: (6, true) :: (8, true) :: (7, false) :: (9, false) :: []) (by kernel_rfl) (by kernel_rfl) (by kernel_rfl) (by decide) (fun _ _ _ _ _ h => h) ((HCT.out.later (Below.refl _ _).drew)) ?_
                  replace HCT := Lib.hid (HCT.out.later (Below.refl _ _).drew)
                  replace HH1 := Lib.hid HH1.out.drew
                  repeat (first | (refine seq_take (v := ?_) rfl ?_ ?_ ?_; rotate_left 1; rfl; (focus (intro wS hSw; obtain ⟨⟨k0, k1, k2, k3⟩, kx, ky⟩ := hSw; go_simp; first | done | with_reducible rfl)); (try simp only [Act.put, List.setIfInBounds_toArray, List.set_cons_zero, List.set_cons_succ])) | (refine seq_skip rfl ?_ ?_; rfl; (try simp only [Act.put, List.setIfInBounds_toArray, List.set_cons_zero, List.set_cons_succ])))
                  refine seq_run rfl (fun K hK => ?_)
                  go_simp
                  (try rw [hj])
                  go_at_call 20
                  refine (cword_any _ _ _ _ _ _).mono ?_
                  rintro r w5 ⟨rfl, hb5⟩
                  (try go_wp2_with fail)
                  replace HCT := Lib.hid (HCT.out.later hb5)
                  replace HH1 := Lib.hid (HH1.out.later hb5)
                  clear hb5
                  refine hK.out _ _ (HCT.out) (fun _ => ?_)
                  (try simp only [Act.put, List.setIfInBounds_toArray, List.set_cons_zero, List.set_cons_succ])
                  clear hK K
                  repeat (first | (refine seq_take (v := ?_) rfl ?_ ?_ ?_; rotate_left 1; rfl; (focus (intro wS hSw; obtain ⟨⟨k0, k1, k2, k3⟩, kx, ky⟩ := hSw; go_simp; first | done | with_reducible rfl)); (try simp only [Act.put, List.setIfInBounds_toArray, List.set_cons_zero, List.set_cons_succ])) | (refine seq_skip rfl ?_ ?_; rfl; (try simp only [Act.put, List.setIfInBounds_toArray, List.set_cons_zero, List.set_cons_succ])))
                  refine seq_run rfl (fun K hK => ?_)
                  go_simp
                  go_at_call 29
                  refine (store_in W.heap.size _ p c _ _ _ (-1) j _ (fr : Int) HH1.out.mem (getD_at HJ.out) HH1.out.size (by have := HL.out; omega) (by omega) (by omega)).mono ?_
                  rintro r w7 ⟨rfl, v7, hT7⟩
                  (try go_wp2_with fail)
                  replace HCT := Lib.hid (HCT.out.keep hT7.keep HCF.out HNB.out)
                  have HH7 := Lib.hid (HH1.out.store hT7)
                  clear hT7 HH1
                  refine hK.out _ _ (HCT.out) (fun _ => ?_)
                  (try simp only [Act.put, List.setIfInBounds_toArray, List.set_cons_zero, List.set_cons_succ])
                  clear hK K
                  repeat (first | (refine seq_take (v := ?_) rfl ?_ ?_ ?_; rotate_left 1; rfl; (focus (intro wS hSw; obtain ⟨⟨k0, k1, k2, k3⟩, kx, ky⟩ := hSw; go_simp; first | done | with_reducible rfl)); (try simp only [Act.put, List.setIfInBounds_toArray, List.set_cons_zero, List.set_cons_succ])) | (refine seq_skip rfl ?_ ?_; rfl; (try simp only [Act.put, List.setIfInBounds_toArray, List.set_cons_zero, List.set_cons_succ])))
                  refine seq_done ?_
                  clear HCT HCF HNB
                  have HN7 := HQ.out.store (C.set j (fr : Int))
                  have HR7 := Lib.hid (HR.out.store j (fr : Int) (Int.le_of_lt (HF.out j)) HJ.out)
                  have HC7 : Hid ((C.set j (fr : Int)).length = M) := by show _ = _; rw [List.length_set]; exact HC.out
                  have HF7 : Hid (∀ e, (C.set j (fr : Int)).getD e 0 < ((fr + 1 : Nat) : Int)) := fun e => by
                    rw [set_getD _ _ _ _ HJ.out]
                    have := HF.out e
                    split <;> omega
                  have HL7 : ∀ e : Ev, Hid ((L ++ [e]).length ≤ 41 * n + (q + 1)) := fun e => by show _ ≤ _; rw [List.length_append]; have := HL.out; simp; omega
                  have hfw : IntKind.u64.wrap ((fr : Int) + 1) = (fr : Int) + 1 := by rw [IntKind.wrap_u64]; omega
                  have hfin : ∃ tu' : Nat, tu' ≤ 40 ∧ Hid (QInv k (C.set j (fr : Int)) N st 0 P (2 * tu') (P : Int)) ∧ Hid ((tu' ≤ cnt (fun q => (X q).1) n len4) ∨ ((P : Int) = (P : Int) ∧ tu' ≤ cnt (fun q => (X q).1) (n + 1) len4)) := by
                    by_cases hl : last = (P : Int)
                    · rw [if_pos hl] at HN7
                      refine ⟨tu, htu, HN7, ?_⟩
                      rcases HT.out with h | ⟨_, h⟩
                      · exact .inl h
                      · exact .inr ⟨rfl, h⟩
                    · rw [if_neg hl] at HN7
                      have h1 : tu + 1 ≤ cnt (fun q => (X q).1) (n + 1) len4 := by
                        rcases HT.out with h | ⟨h, _⟩
                        · have := cnt_one (fun q => (X q).1) n (by omega) q (HTH.out.trans HE1.out) len4 hql
                          omega
                        · exact absurd h hl
                      have h2 := cnt_le (fun q => (X q).1) ((n : Int) + 1) len4
                      exact ⟨tu + 1, by omega, HN7, .inr ⟨rfl, h1⟩⟩
                  obtain ⟨tu', htu', HQ7, HT7⟩ := hfin
                  clear HN7
                  go_wp2_with fail
                  go_roundw
                  case rel => exact ⟨q + 1, tu', fr + 1, (P : Int), v7, _, _, by omega, by go_num, by go_num, htu', by omega, by omega, HH7, HQ7, HR7, HC7, HL7 _, HT7, HF7⟩
                  case measure => simp [intOf]; omega
                · have qe : (th == (n : Int)) = false := by simp [he]
                  have HH1 := Lib.hid (HH.out.later (below_new (Below.refl _ _) (.cells #[i64 th, i64 sl, .int .u64 x] 67)))
                  clear he
                  go_wp2_with fail
                  go_roundw
                  case rel => exact ⟨q + 1, tu, fr, last, v, _, _, by omega, by go_num, rfl, htu, hf1, by omega, HH1, HQ, HR, HC, by have := HL.out; show _ ≤ _; omega, HT, HF⟩
                  case measure => simp [intOf]; omega
              · have hok := (HQ.out.snap HPR.out).ok (t := t) (s := s) HE.out rfl rfl hlay rfl (by have := HC.out; have := HM.out; omega) (by omega)
                have HST := Lib.hid (HH.out.call hok (by have := HL.out; omega))
                have HO2 : Hid (Ones (k.step C) C N st (n + 1) (2 * tu) last F) := Ones.step HPR.out HQ.out HR.out
                have HE2 := Lib.hid (HE.out.trans (Snap.same C k))
                have HT2 : Hid (tu ≤ cnt (fun q => (X q).1) ((n + 1 : Nat) : Int) len4) := by
                  have := cnt_mono (fun q => (X q).1) n len4
                  rcases HT.out with h | ⟨_, h⟩
                  · exact Nat.le_trans h this
                  · exact h
                have hqe : ¬ (q : Int) < (len4 : Int) := by omega
                clear hok HQ HR HE
                go_wp2_with fail
                refine HST.out.mono ?_
                rintro r w4 ⟨rfl, v4, hH4⟩
                have HH4 := Lib.hid hH4
                clear hH4
                go_wp2_with fail
                go_roundw
                case rel => exact ⟨n + 1, tu, fr, last, v4, _, _, _, F, by omega, by go_num, rfl, hf1, by omega, by rw [HFN.out]; exact HH4, HO2, HE2, HC, by show _ ≤ _; rw [List.length_append]; have := HL.out; have := Sn.ev_le k C; omega, HT2, HF, .inl HFN.out⟩
                case measure => simp [intOf]; omega
      · have HR := Lib.hid (hri hr0)
        have HFN : Hid (F.length = N) := by
          rcases HN.out with h | h
          · exact h
          · have := HPR.out; show _ = _; omega
        have hrz : ((r : Int) == 0) = false := by simp; omega
        clear hle hri HN HO
        go_wp2_with fail
        refine (snphase_any W.heap.size _ b g k HH.out.sn).mono ?_
        rintro r w' ⟨rfl, rfl⟩
        rw [HP.out]
        go_wp2_with fail
        clear hmod hrz
        obtain ⟨wo, rfl⟩ : ∃ wo : World, wo = wr := ⟨_, rfl⟩
        have HC0 : Hid ((tu ≤ cnt (fun q => (X q).1) n len4) ∨ (last = (P : Int) ∧ tu ≤ cnt (fun q => (X q).1) (n + 1) len4)) := .inl HT.out
        go_loopw [16, 77] (fun vf j wr => ∃ (q tu fr : Nat) (last : Int) (v : Value) (C : List Int) (L : List Ev), q ≤ len4 ∧ j = .int .i64 q ∧ vf = .int .u64 fr ∧ tu ≤ 40 ∧ 1 ≤ fr ∧ fr ≤ 1 + 40 * n + q ∧ Hid (SnapHold W wr p c v C L b g k [tRow W.heap.size 44 1 u15 F.length (F.map (Value.int .u64))]) ∧ Hid (QInv k C N st r P (2 * tu) last) ∧ Hid (Rise k C N st r F) ∧ Hid (C.length = M) ∧ Hid (L.length ≤ 41 * n + q) ∧ Hid ((tu ≤ cnt (fun q => (X q).1) n len4) ∨ (last = (P : Int) ∧ tu ≤ cnt (fun q => (X q).1) (n + 1) len4)) ∧ Hid (∀ e, C.getD e 0 < (fr : Int))) (fun _ j _ => len4 - (intOf j).toNat)
        case atStart => exact ⟨0, _, _, _, _, _, _, by omega, rfl, rfl, htu, hf1, by omega, HH, HQ, HR, HC, by have := HL.out; show _ ≤ _; omega, HC0, HF⟩
        case round =>
          clear HH HQ HR HC HL HT HC0 HF
          obtain ⟨q, tu, fr, last, v, C, L, hq, rfl, rfl, htu, hf1, hf2, HH, HQ, HR, HC, HL, HT, HF⟩ := hrel
          rcases Nat.lt_or_ge q len4 with hql | hql
          · obtain ⟨rfl, hcap, htb, hx0, hx1, hx2, z0, z1⟩ := HX q hql
            have hwW : Below w.heap.size w wr := below_step' HB.out HH.out.below HB.out.size
            have gx0 := (hwW.cell (p := ⟨tb, _, none⟩) htb).trans hx0
            have gx1 := (hwW.cell (p := ⟨tb, _, none⟩) htb).trans hx1
            have gx2 := (hwW.cell (p := ⟨tb, _, none⟩) htb).trans hx2
            obtain ⟨th, hth⟩ : ∃ th, (X q).1 = th := ⟨_, rfl⟩
            have HTH := Lib.hid hth
            rw [hth] at gx0
            generalize (X q).2.1 = sl at gx1
            generalize (X q).2.2 = x at gx2 z0 z1
            have hql' : (q : Int) < (len4 : Int) := by omega
            clear hx0 hx1 hx2 hwW hth HX
            by_cases he : th = (n : Int)
            · have qe : (th == (n : Int)) = true := by simp [he]
              have HE1 := Lib.hid he
              obtain ⟨u5, hu5, l5, g5⟩ : ∃ u, bits .and .i64 sl 65535 = u ∧ 0 ≤ u ∧ u ≤ 65535 := ⟨_, and_ffff sl, by omega, by omega⟩
              obtain ⟨j, hj, hjN⟩ : ∃ j : Nat, u5.tmod (N : Int) = (j : Int) ∧ j < N := by
                have h1 := Int.emod_nonneg u5 (show (N : Int) ≠ 0 by omega)
                have h2 := Int.emod_lt_of_pos u5 (show (0 : Int) < (N : Int) by omega)
                rw [Int.tmod_eq_emod_of_nonneg l5]
                exact ⟨(u5 % (N : Int)).toNat, by omega, by omega⟩
              have HJ : Hid (j < C.length) := by have := HC.out; have := HM.out; show _ < _; omega
              clear he
              go_wp2_with fail
              have HCT := Lib.hid (AtCT7.made (HA.out.later HH.out.below Hs.out) th sl x 67)
              have HH1 := Lib.hid (HH.out.later (below_new (Below.refl _ _) (.cells #[i64 th, i64 sl, .int .u64 x] 67)))
              have hnb : ¬ Foot p c v wr.heap.size := fun hf => by have := (HH.out.mem.foot _ hf).2; omega
              have hcf : ¬ Foot p c v cb := fun hf => by have := (HH.out.mem.foot _ hf).1; have := Hs.out; omega
              have HNB := Lib.hid hnb
              have HCF := Lib.hid hcf
              clear gx0 gx1 gx2 hnb hcf
              refine wp_region_seqS ((AtCT7 cb wr.heap.size t s sl x)) ((0, true) :: (1, true) :: (2, true) :: (3, true) :: (4, true) :: (5, true) :: (6, true) :: (8, true) :: (7, false) :: (9, false) :: []) (by kernel_rfl) (by kernel_rfl) (by kernel_rfl) (by decide) (fun _ _ _ _ _ h => h) ((HCT.out.later (Below.refl _ _).drew)) ?_
              replace HCT := Lib.hid (HCT.out.later (Below.refl _ _).drew)
              replace HH1 := Lib.hid HH1.out.drew
              repeat (first | (refine seq_take (v := ?_) rfl ?_ ?_ ?_; rotate_left 1; rfl; (focus (intro wS hSw; obtain ⟨⟨k0, k1, k2, k3⟩, kx, ky⟩ := hSw; go_simp; first | done | with_reducible rfl)); (try simp only [Act.put, List.setIfInBounds_toArray, List.set_cons_zero, List.set_cons_succ])) | (refine seq_skip rfl ?_ ?_; rfl; (try simp only [Act.put, List.setIfInBounds_toArray, List.set_cons_zero, List.set_cons_succ])))
              refine seq_run rfl (fun K hK => ?_)
              go_simp
              (try rw [hj])
              go_at_call 20
              refine (cword_any _ _ _ _ _ _).mono ?_
              rintro r w5 ⟨rfl, hb5⟩
              (try go_wp2_with fail)
              replace HCT := Lib.hid (HCT.out.later hb5)
              replace HH1 := Lib.hid (HH1.out.later hb5)
              clear hb5
              refine hK.out _ _ (HCT.out) (fun _ => ?_)
              (try simp only [Act.put, List.setIfInBounds_toArray, List.set_cons_zero, List.set_cons_succ])
              clear hK K
              repeat (first | (refine seq_take (v := ?_) rfl ?_ ?_ ?_; rotate_left 1; rfl; (focus (intro wS hSw; obtain ⟨⟨k0, k1, k2, k3⟩, kx, ky⟩ := hSw; go_simp; first | done | with_reducible rfl)); (try simp only [Act.put, List.setIfInBounds_toArray, List.set_cons_zero, List.set_cons_succ])) | (refine seq_skip rfl ?_ ?_; rfl; (try simp only [Act.put, List.setIfInBounds_toArray, List.set_cons_zero, List.set_cons_succ])))
              refine seq_run rfl (fun K hK => ?_)
              go_simp
              go_at_call 29
              refine (store_in W.heap.size _ p c _ _ _ (-1) j _ (fr : Int) HH1.out.mem (getD_at HJ.out) HH1.out.size (by have := HL.out; omega) (by omega) (by omega)).mono ?_
              rintro r w7 ⟨rfl, v7, hT7⟩
              (try go_wp2_with fail)
              replace HCT := Lib.hid (HCT.out.keep hT7.keep HCF.out HNB.out)
              have HH7 := Lib.hid (HH1.out.store hT7)
              clear hT7 HH1
              refine hK.out _ _ (HCT.out) (fun _ => ?_)
              (try simp only [Act.put, List.setIfInBounds_toArray, List.set_cons_zero, List.set_cons_succ])
              clear hK K
              repeat (first | (refine seq_take (v := ?_) rfl ?_ ?_ ?_; rotate_left 1; rfl; (focus (intro wS hSw; obtain ⟨⟨k0, k1, k2, k3⟩, kx, ky⟩ := hSw; go_simp; first | done | with_reducible rfl)); (try simp only [Act.put, List.setIfInBounds_toArray, List.set_cons_zero, List.set_cons_succ])) | (refine seq_skip rfl ?_ ?_; rfl; (try simp only [Act.put, List.setIfInBounds_toArray, List.set_cons_zero, List.set_cons_succ])))
              refine seq_done ?_
              clear HCT HCF HNB
              have HN7 := HQ.out.store (C.set j (fr : Int))
              have HR7 := Lib.hid (HR.out.store j (fr : Int) (Int.le_of_lt (HF.out j)) HJ.out)
              have HC7 : Hid ((C.set j (fr : Int)).length = M) := by show _ = _; rw [List.length_set]; exact HC.out
              have HF7 : Hid (∀ e, (C.set j (fr : Int)).getD e 0 < ((fr + 1 : Nat) : Int)) := fun e => by
                rw [set_getD _ _ _ _ HJ.out]
                have := HF.out e
                split <;> omega
              have HL7 : ∀ e : Ev, Hid ((L ++ [e]).length ≤ 41 * n + (q + 1)) := fun e => by show _ ≤ _; rw [List.length_append]; have := HL.out; simp; omega
              have hfw : IntKind.u64.wrap ((fr : Int) + 1) = (fr : Int) + 1 := by rw [IntKind.wrap_u64]; omega
              have hfin : ∃ tu' : Nat, tu' ≤ 40 ∧ Hid (QInv k (C.set j (fr : Int)) N st r P (2 * tu') (P : Int)) ∧ Hid ((tu' ≤ cnt (fun q => (X q).1) n len4) ∨ ((P : Int) = (P : Int) ∧ tu' ≤ cnt (fun q => (X q).1) (n + 1) len4)) := by
                by_cases hl : last = (P : Int)
                · rw [if_pos hl] at HN7
                  refine ⟨tu, htu, HN7, ?_⟩
                  rcases HT.out with h | ⟨_, h⟩
                  · exact .inl h
                  · exact .inr ⟨rfl, h⟩
                · rw [if_neg hl] at HN7
                  have h1 : tu + 1 ≤ cnt (fun q => (X q).1) (n + 1) len4 := by
                    rcases HT.out with h | ⟨h, _⟩
                    · have := cnt_one (fun q => (X q).1) n (by omega) q (HTH.out.trans HE1.out) len4 hql
                      omega
                    · exact absurd h hl
                  have h2 := cnt_le (fun q => (X q).1) ((n : Int) + 1) len4
                  exact ⟨tu + 1, by omega, HN7, .inr ⟨rfl, h1⟩⟩
              obtain ⟨tu', htu', HQ7, HT7⟩ := hfin
              clear HN7
              go_wp2_with fail
              go_roundw
              case rel => exact ⟨q + 1, tu', fr + 1, (P : Int), v7, _, _, by omega, by go_num, by go_num, htu', by omega, by omega, HH7, HQ7, HR7, HC7, HL7 _, HT7, HF7⟩
              case measure => simp [intOf]; omega
            · have qe : (th == (n : Int)) = false := by simp [he]
              have HH1 := Lib.hid (HH.out.later (below_new (Below.refl _ _) (.cells #[i64 th, i64 sl, .int .u64 x] 67)))
              clear he
              go_wp2_with fail
              go_roundw
              case rel => exact ⟨q + 1, tu, fr, last, v, _, _, by omega, by go_num, rfl, htu, hf1, by omega, HH1, HQ, HR, HC, by have := HL.out; show _ ≤ _; omega, HT, HF⟩
              case measure => simp [intOf]; omega
          · have hok := (HQ.out.snap HPR.out).ok (t := t) (s := s) HE.out rfl rfl hlay rfl (by have := HC.out; have := HM.out; omega) (by omega)
            have HST := Lib.hid (HH.out.call hok (by have := HL.out; omega))
            have HO2 : Hid (Ones (k.step C) C N st (n + 1) (2 * tu) last F) := Ones.step HPR.out HQ.out HR.out
            have HE2 := Lib.hid (HE.out.trans (Snap.same C k))
            have HT2 : Hid (tu ≤ cnt (fun q => (X q).1) ((n + 1 : Nat) : Int) len4) := by
              have := cnt_mono (fun q => (X q).1) n len4
              rcases HT.out with h | ⟨_, h⟩
              · exact Nat.le_trans h this
              · exact h
            have hqe : ¬ (q : Int) < (len4 : Int) := by omega
            clear hok HQ HR HE
            go_wp2_with fail
            refine HST.out.mono ?_
            rintro r w4 ⟨rfl, v4, hH4⟩
            have HH4 := Lib.hid hH4
            clear hH4
            go_wp2_with fail
            go_roundw
            case rel => exact ⟨n + 1, tu, fr, last, v4, _, _, _, F, by omega, by go_num, rfl, hf1, by omega, HH4, HO2, HE2, HC, by show _ ≤ _; rw [List.length_append]; have := HL.out; have := Sn.ev_le k C; omega, HT2, HF, .inl HFN.out⟩
            case measure => simp [intOf]; omega
    · have HP := Lib.hid hp
      have hlt2 := Nat.le_trans hlt (Nat.mul_le_mul_right N (show 2 * tu + 2 ≤ 82 by omega))
      have hlt3 : (n : Int) < 100 * (N : Int) := by omega
      have hFN : F.length = N := by
        rcases HN.out with h | h
        · exact h
        · omega
      have hrow : wr.ownsRow W.heap.size 44 1 u15 F.length (F.map (Value.int .u64)) := Hold.has HH.out 2 _ rfl
      rw [hFN] at hrow
      obtain ⟨fb, cap, rfl, hcap, hfb⟩ := row_shape hrow (by omega)
      have HROW := Lib.hid hrow
      have HKN := Lib.hid hkN
      have HXL := Lib.hid hXl
      have HXX := Lib.hid hx
      clear hlt hlt2 hp hXl hkN hx hrow HO HN hcn hFN
      go_wp2_with fail
      refine (snphase_any W.heap.size _ b g k HH.out.sn).mono ?_
      rintro r w' ⟨rfl, rfl⟩
      rw [HP.out]
      go_wp2_with fail
      refine (snwords_any W.heap.size _ b g k HP.out (by rw [HKN.out]; omega) HH.out.sn).mono ?_
      rintro r w5 ⟨h5, rfl, ho5, hb5⟩
      rw [HKN.out] at ho5 ⊢
      have HH5 := Lib.hid (HH.out.later hb5)
      have hG : ∀ e, e < N → w5.cell? ⟨h5, e, none⟩ = some (.int .u64 (F.getD e 0)) ∧ w5.cell? ⟨fb, e, none⟩ = some (.int .u64 (F.getD e 0)) := fun e he => by
        have hr5 := (Keep.of_below (T := fun _ => False) hb5).row HROW.out (fun _ _ h => h)
        refine ⟨?_, row_at hr5 he⟩
        rw [← HXX.out e he]
        exact row_at ho5 he
      have HG := Lib.hid hG
      clear ho5 hb5 hG
      go_wp2_with fail
      refine (snphase_any W.heap.size _ b g k HH5.out.sn).mono ?_
      rintro r w' ⟨rfl, rfl⟩
      rw [HP.out]
      have HB5 : Hid (Below w5.heap.size w5 w5) := Below.refl _ _
      have hbf := Lib.hid (below_step' HB.out HH5.out.below HB.out.size)
      clear HH HH5 HP HROW
      go_wp2_with fail
      obtain ⟨wo, rfl⟩ : ∃ wo : World, wo = wr := ⟨_, rfl⟩
      go_loopw [114] (fun j wr => ∃ e : Nat, e ≤ N ∧ j = .int .i64 e ∧ Hid (Below w5.heap.size w5 wr)) (fun j _ => N - (intOf j).toNat)
      case atStart => exact ⟨0, by omega, rfl, HB5⟩
      case round =>
        clear HB5
        obtain ⟨e, he, rfl, HB5⟩ := hrel
        rcases Nat.lt_or_ge e N with heN | heN
        · obtain ⟨g1, g2⟩ := HG.out e heN
          replace g1 := (HB5.out.cell (p := ⟨h5, e, none⟩) (World.block_lt_of_cell? w5 _ g1)).trans g1
          replace g2 := (HB5.out.cell (p := ⟨fb, e, none⟩) (World.block_lt_of_cell? w5 _ g2)).trans g2
          generalize F.getD e 0 = x at g1 g2
          have heN' : (e : Int) < (N : Int) := by omega
          go_wp2_with fail
          refine wp_region_seq ((0, true) :: (1, true) :: (2, true) :: (3, true) :: (4, true) :: (5, true) :: (6, true) :: (7, true) :: (8, true) :: []) (by kernel_rfl) (by kernel_rfl) (by kernel_rfl) (by decide) (fun _ _ _ _ _ h => h) (fun hHeld => ?_)
          repeat (first
            | (refine seq_take (v := ?_) rfl ?_ ?_ ?_; rotate_left 1; rfl; (focus (intro wS hSw; have hk := below_rule hSw; go_simp; first | done | with_reducible rfl)); (try simp only [Act.put, List.setIfInBounds_toArray, List.set_cons_zero, List.set_cons_succ]))
            | (refine seq_skip rfl ?_ ?_; rfl; (try simp only [Act.put, List.setIfInBounds_toArray, List.set_cons_zero, List.set_cons_succ]))
            | (refine seq_run rfl (fun K hK => ?_); go_simp; (try skip); (try go_wp2_with fail); refine hK.out _ _ ?_ ?_; (focus (first | exact below_step hHeld hb' | exact below_new hHeld _ | exact hHeld)); (try clear hb'); clear hHeld hK K; intro hHeld; (try simp only [Act.put, List.setIfInBounds_toArray, List.set_cons_zero, List.set_cons_succ])))
          first | refine seq_done ?_ | skip
          have HB6 := Lib.hid (below_step HB5.out hHeld)
          go_wp2_with fail
          go_roundw
          case rel => exact ⟨e + 1, by omega, by go_num, HB6⟩
          case measure => simp [intOf]; omega
        · have heN' : ¬ (e : Int) < (N : Int) := by omega
          have hbg := Lib.hid (below_step' hbf.out HB5.out (by have := hbf.out.size; have := HB5.out.size; omega))
          go_wp2
          go_ret
          exact ⟨rfl, hbg.out⟩

end Go.Proofs.Ytgpdoihgnpkanaa
