/-
  SnapSteps answers true for all numbers and every list of turns, and leaves all memory that was there as it was. No condition.
-/
import Derived.Test.YtgpdoihgnpkanaaSnapSteps
import Derived.Test.YtgpdoihgnpkanaaRows2
import Derived.Test.YtgpdoihgnpkanaaTickTouched
namespace Go.Proofs.Ytgpdoihgnpkanaa
open Go.RowKit
set_option linter.unusedVariables false

set_option maxRecDepth 100000 in
set_option maxHeartbeats 16000000 in
theorem walk_SnapSteps (a0 : Int) (a1 : Int) (a2 : Int) (a3 : Int) (a4 : Option Addr) (len4 cap4 : Nat) (w : World) (w0 : (Lit.int .i64 a0).wf = true) (w1 : (Lit.int .i64 a1).wf = true) (w2 : (Lit.int .i64 a2).wf = true) (w3 : (Lit.int .i64 a3).wf = true) (w4 : IsRows w [.inl .i64, .inl .i64, .inl .u64] a4 len4 cap4) :
    Calls Try.prog 6 #[.int .i64 a0, .int .i64 a1, .int .i64 a2, .int .i64 a3, .slice a4 len4 cap4] w fun e w' => e = .returned (.bool true) ∧ Below w.heap.size w w' := by
  clear w0 w1 w2 w3
  by_cases hbig : 40 < len4
  · have hbig' : (40 : Int) < (len4 : Int) := by omega
    clear w4
    go_enter Try.func6, Try.ntmps6
    go_wp2_with fail
    refine (head7_any _).mono ?_
    rintro e w1 ⟨rfl, hb1⟩
    go_wp2_with fail
    go_ret
    exact ⟨rfl, hb1⟩
  have p0 : decide ((40 : Int) < (len4 : Int)) = false := decide_eq_false (by omega)
  have W4 := Lib.hid w4
  clear w4
  obtain ⟨u2, hu2, l2, g2⟩ : ∃ u, bits .and .i64 a2 65535 = u ∧ 0 ≤ u ∧ u ≤ 65535 := ⟨_, and_ffff a2, by omega, by omega⟩
  go_enter Try.func6, Try.ntmps6
  go_wp2_with fail
  refine (head7_any _).mono ?_
  rintro e w1 ⟨rfl, hb1⟩
  go_wp2_with fail
  refine (conf2_any _ _ _).mono ?_
  rintro e w2 ⟨t, s, rfl, t1, t2, s1, s2, hb2⟩
  have ht0 : (t == 0) = false := by simp; omega
  have hB2 := Lib.hid (below_step hb1 hb2)
  clear hb1 hb2
  obtain ⟨N, hNe, hlay, hN1, hN2⟩ := lay44 t1 t2 s1 s2
  have hn0 : ¬ N = 0 := by omega
  clear hNe
  go_wp2_with fail
  have hw0 := Int.emod_nonneg u2 (show t ≠ 0 by omega)
  have hw1 := Int.emod_lt_of_pos u2 (show 0 < t by omega)
  generalize u2 % t = who at hw0 hw1 ⊢
  clear hu2 l2 g2
  have hA := AtC.made w2 t s 0 0
  have hB3 := below_new (Below.refl w2.heap.size w2) (.cells #[.int .i64 t, .int .i64 s, .int .i64 0, .int .i64 0] 27)
  have hs3 : w2.heap.size < (w2.alloc (.cells #[.int .i64 t, .int .i64 s, .int .i64 0, .int .i64 0] 27)).heap.size := by simp
  have HA := Lib.hid hA
  have HB := Lib.hid (below_step hB2.out hB3)
  have Hs := Lib.hid hs3
  clear hA hB3 hs3 hB2
  generalize w2.alloc (.cells #[.int .i64 t, .int .i64 s, .int .i64 0, .int .i64 0] 27) = W at HA HB Hs ⊢
  generalize w2.heap.size = cb at HA Hs ⊢
  clear w2 w1
  refine (call_any t s 0 0 N _ hlay).mono ?_
  rintro r w1 ⟨rfl, hb1⟩
  obtain ⟨q0, q1, q2, q3⟩ := HA.out.later hb1 Hs.out
  go_wp2_with fail
  refine (ccells_any t s 0 0 N _ hlay).mono ?_
  rintro r w2 ⟨rfl, hb2⟩
  obtain ⟨M, hM⟩ : ∃ M : Nat, 2 * (N : Int) + 2 * t = (M : Int) := ⟨(2 * (N : Int) + 2 * t).toNat, by omega⟩
  have HM := Lib.hid hM
  rw [hM]
  clear hM q0 q1 q2 q3
  have hb12 := below_step hb1 hb2
  clear hb1 hb2
  go_wp2_with fail
  refine (new_nat W.heap.size M M _ hb12.size (by have := HM.out; omega) (.inl rfl)).mono ?_
  rintro r w3 ⟨p, c, rfl, hM3, hb3, hp, hc⟩
  have hb13 := below_step' hb12 hb3 hb12.size
  obtain ⟨q0, q1, q2, q3⟩ := HA.out.later hb13 Hs.out
  go_wp2_with fail
  refine (snnew_any W.heap.size _ t s 0 0 who a3 N N hlay rfl hb13.size).mono ?_
  rintro r w4 ⟨b, g, rfl, hS4, hb4, hbb, hbg⟩
  obtain ⟨m1, m2, m5, m3, m4⟩ := start_mod a3 N hN1 (by omega)
  obtain ⟨st, hst, hst2⟩ : ∃ st : Nat, IntKind.u64.wrap a3 % (N : Int) = (st : Int) ∧ st < N := by
    have h := start_mod a3 N hN1 (by omega)
    exact ⟨(IntKind.u64.wrap a3 % (N : Int)).toNat, by omega, by omega⟩
  rw [hst] at hS4
  have hH := SnapHold.begun hb12 hM3 hb3 hp hc hb4 hS4 hbb hbg
  have HH := Lib.hid hH
  have HN0 := Lib.hid (SRel.start t s 0 0 who hst2)
  have HE0 : Hid (SnSame (sn0 t s 0 0 who st N) (sn0 t s 0 0 who st N)) := ⟨rfl, rfl, rfl, rfl, rfl⟩
  have HL0 : Hid ((List.replicate M (0 : Int)).length = M) := List.length_replicate
  clear hH hS4 hb4 hbb hbg hM3 hb3 hp hc hb12 hb13 q0 q1 q2 q3
  rw [hst] at m2 m5
  obtain ⟨ii, hi, hz0, hz1, hz2⟩ := elem_u64.info
  obtain ⟨tb, off, X, HX⟩ := rows_turn7' W4.out
  have T1 : True := trivial
  clear m3 m4 hst
  go_wp2_with (first
    | (have T2 := T1; clear T2 T1; refine wpList_make_full _ rfl _ _ 65 rfl W.heap.size 44 ii (.int .u64 0) 1 elem_u64.und hi hz0 hz1 .i64 .i64 _ _ N rfl rfl rfl rfl (by rw [hz2]; omega) (by unfold maxLen; omega) HH.out.size ?_; intro wm1 hown hgrow; rw [toList_made] at hown; have HH2 := Lib.hid (HH.out.more ((Below.refl _ _).grown hgrow (Nat.le_refl _) (fun k hk => by cases hk)) (tRow_ok W.heap.size 44 1 _ N _) hown tRow_new); clear hown hgrow HH; have HH := HH2; clear HH2; generalize w4.heap.size = wb at HH ⊢)
    | (refine wpList_make_full _ rfl _ _ 65 rfl W.heap.size 44 ii (.int .u64 0) 1 elem_u64.und hi hz0 hz1 .i64 .i64 _ _ N rfl rfl rfl rfl (by rw [hz2]; omega) (by unfold maxLen; omega) HH.out.size ?_; intro wm2 hown hgrow; rw [toList_made] at hown; have HH2 := Lib.hid (HH.out.more ((Below.refl _ _).grown hgrow (Nat.le_refl _) (fun k hk => by cases hk)) (tRow_ok W.heap.size 44 1 _ N _) hown tRow_new); clear hown hgrow HH; have HH := HH2; clear HH2; generalize wm1.heap.size = nb at HH ⊢))
  have HHx : Hid (SnapHold W wm2 p c (.slice none 0 0) (List.replicate M 0) [] b g (sn0 t s 0 0 who st N) [tRow W.heap.size 44 1 (.slice (some ⟨wb, 0, none⟩) N N) N ((List.replicate N 0).map (Value.int .u64)), tRow W.heap.size 44 1 (.slice (some ⟨nb, 0, none⟩) N N) N ((List.replicate N 0).map (Value.int .u64))]) := HH
  clear HH m1 m2 m5 hi hz0 hz1 hz2
  have HS0 : Hid ((∃ P r, (0 : Int) = ((P : Nat) : Int) ∧ SRel (sn0 t s 0 0 who st N) N st 0 r P (List.replicate N 0) (List.replicate N 0)) ∨ (∃ P : Nat, (0 : Int) = (P : Int) ∧ 0 = P * N ∧ SnAt (sn0 t s 0 0 who st N) N st 0 P ∧ (sn0 t s 0 0 who st N).ph = 1 ∧ (sn0 t s 0 0 who st N).X = List.replicate N 0)) := .inl ⟨0, 0, rfl, HN0.out⟩
  clear HN0
  go_loopw [18, 19, 20] (fun vp va i wr => ∃ (n : Nat) (pa : Int) (v : Value) (C : List Int) (L : List Ev) (k : Sn) (A B : List Int), n ≤ 8 * N ∧ i = .int .i64 n ∧ va = .int .i64 pa ∧ vp = .int .i64 k.ph ∧ Hid (SnapHold W wr p c v C L b g k [tRow W.heap.size 44 1 (.slice (some ⟨wb, 0, none⟩) N N) N (A.map (Value.int .u64)), tRow W.heap.size 44 1 (.slice (some ⟨nb, 0, none⟩) N N) N (B.map (Value.int .u64))]) ∧ Hid ((∃ P r, pa = ((P : Nat) : Int) ∧ SRel k N st n r P A B) ∨ (∃ P : Nat, pa = (P : Int) ∧ n = P * N ∧ SnAt k N st 0 P ∧ k.ph = 1 ∧ k.X = B)) ∧ Hid (SnSame (sn0 t s 0 0 who st N) k) ∧ Hid (C.length = M) ∧ Hid (L.length ≤ 41 * n)) (fun _ _ i _ => 8 * N - (intOf i).toNat)
  case atStart => exact ⟨0, 0, _, _, _, _, _, _, by omega, rfl, rfl, rfl, HHx, HS0, HE0, HL0, Nat.zero_le _⟩
  case round =>
    clear HHx HS0 HE0 HL0
    obtain ⟨n, pa, v, C, L, k, A, B, hn, rfl, rfl, rfl, HH, HS, HE, HC, HL⟩ := hrel
    have hN8 : 8 * (N : Int) ≤ 128 := by omega
    rcases HS.out with ⟨P, r, rfl, hS⟩ | ⟨P, rfl, hPn, hAt, hp1, hX⟩
    · have HP := Lib.hid hS.ph
      have hrN := hS.at'.r1
      rw [HP.out]
      have HSR := Lib.hid hS
      rcases Nat.lt_or_ge n (8 * N) with hn8 | hn8
      · have hn8' : (n : Int) < 8 * (N : Int) := by omega
        have hPb : P ≤ 8 := by
          have h1 := hS.hn
          rcases Nat.lt_or_ge 8 P with h | h
          · have := Nat.mul_le_mul_right N h
            omega
          · exact h
        clear HS hS
        obtain ⟨wo, rfl⟩ : ∃ wo : World, wo = wr := ⟨_, rfl⟩
        go_wp2_with fail
        have HL0 : Hid (L.length ≤ 41 * n + 0) := HL.out
        go_loopw [75] (fun j wr => ∃ (q : Nat) (v : Value) (C : List Int) (L : List Ev), q ≤ len4 ∧ j = .int .i64 q ∧ Hid (SnapHold W wr p c v C L b g k [tRow W.heap.size 44 1 (.slice (some ⟨wb, 0, none⟩) N N) N (A.map (Value.int .u64)), tRow W.heap.size 44 1 (.slice (some ⟨nb, 0, none⟩) N N) N (B.map (Value.int .u64))]) ∧ Hid (C.length = M) ∧ Hid (L.length ≤ 41 * n + q)) (fun j _ => len4 - (intOf j).toNat)
        case atStart => exact ⟨0, _, _, _, by omega, rfl, HH, HC, HL0⟩
        case round =>
          clear HH HC HL HL0
          obtain ⟨q, v, C, L, hq, rfl, HH, HC, HL⟩ := hrel
          rcases Nat.lt_or_ge q len4 with hql | hql
          · obtain ⟨rfl, hcap, htb, hx0, hx1, hx2, z0, z1⟩ := HX q hql
            have hwW : Below w.heap.size w wr := below_step' HB.out HH.out.below HB.out.size
            have gx0 := (hwW.cell (p := ⟨tb, _, none⟩) htb).trans hx0
            have gx1 := (hwW.cell (p := ⟨tb, _, none⟩) htb).trans hx1
            have gx2 := (hwW.cell (p := ⟨tb, _, none⟩) htb).trans hx2
            obtain ⟨th, hth⟩ : ∃ th, (X q).1 = th := ⟨_, rfl⟩
            have HTH := Lib.hid hth
            rw [hth] at gx0
            generalize (X q).2.1 = sl at gx1
            generalize (X q).2.2 = x at gx2 z0 z1
            have hql' : (q : Int) < (len4 : Int) := by omega
            clear hx0 hx1 hx2 hwW hth HX
            by_cases he : th = (n : Int)
            · have qe : (th == (n : Int)) = true := by simp [he]
              have HE1 := Lib.hid he
              obtain ⟨u5, hu5, l5, g5⟩ : ∃ u, bits .and .i64 sl 65535 = u ∧ 0 ≤ u ∧ u ≤ 65535 := ⟨_, and_ffff sl, by omega, by omega⟩
              obtain ⟨j, hj, hjN⟩ : ∃ j : Nat, u5.tmod (N : Int) = (j : Int) ∧ j < N := by
                have h1 := Int.emod_nonneg u5 (show (N : Int) ≠ 0 by omega)
                have h2 := Int.emod_lt_of_pos u5 (show (0 : Int) < (N : Int) by omega)
                rw [Int.tmod_eq_emod_of_nonneg l5]
                exact ⟨(u5 % (N : Int)).toNat, by omega, by omega⟩
              have HJ : Hid (j < C.length) := by have := HC.out; have := HM.out; show _ < _; omega
              clear he
              go_wp2_with fail
              have HCT := Lib.hid (AtCT7.made (HA.out.later HH.out.below Hs.out) th sl x 67)
              have HH1 := Lib.hid (HH.out.later (below_new (Below.refl _ _) (.cells #[i64 th, i64 sl, .int .u64 x] 67)))
              have hnb : ¬ Foot p c v wr.heap.size := fun hf => by have := (HH.out.mem.foot _ hf).2; omega
              have hcf : ¬ Foot p c v cb := fun hf => by have := (HH.out.mem.foot _ hf).1; have := Hs.out; omega
              have HNB := Lib.hid hnb
              have HCF := Lib.hid hcf
              clear gx0 gx1 gx2 hnb hcf
              refine wp_region_seqS ((AtCT7 cb wr.heap.size t s sl x)) ((0, true) :: (1, true) :: (2, true) :: (3, true) :: (4, true) :: (5, true) :: (6, true) :: (8, true) :: (9, true) :: (7, false) :: (10, false) :: []) (by kernel_rfl) (by kernel_rfl) (by kernel_rfl) (by decide) (fun _ _ _ _ _ h => h) ((HCT.out.later (Below.refl _ _).drew)) ?_
              replace HCT := Lib.hid (HCT.out.later (Below.refl _ _).drew)
              replace HH1 := Lib.hid HH1.out.drew
              repeat (first | (refine seq_take (v := ?_) rfl ?_ ?_ ?_; rotate_left 1; rfl; (focus (intro wS hSw; obtain ⟨⟨k0, k1, k2, k3⟩, kx, ky⟩ := hSw; go_simp; first | done | with_reducible rfl)); (try simp only [Act.put, List.setIfInBounds_toArray, List.set_cons_zero, List.set_cons_succ])) | (refine seq_skip rfl ?_ ?_; rfl; (try simp only [Act.put, List.setIfInBounds_toArray, List.set_cons_zero, List.set_cons_succ])))
              refine seq_run rfl (fun K hK => ?_)
              go_simp
              (try rw [hj])
              go_at_call 20
              refine (cword_any _ _ _ _ _ _).mono ?_
              rintro r w5 ⟨rfl, hb5⟩
              (try go_wp2_with fail)
              replace HCT := Lib.hid (HCT.out.later hb5)
              replace HH1 := Lib.hid (HH1.out.later hb5)
              clear hb5
              refine hK.out _ _ (HCT.out) (fun _ => ?_)
              (try simp only [Act.put, List.setIfInBounds_toArray, List.set_cons_zero, List.set_cons_succ])
              clear hK K
              repeat (first | (refine seq_take (v := ?_) rfl ?_ ?_ ?_; rotate_left 1; rfl; (focus (intro wS hSw; obtain ⟨⟨k0, k1, k2, k3⟩, kx, ky⟩ := hSw; go_simp; first | done | with_reducible rfl)); (try simp only [Act.put, List.setIfInBounds_toArray, List.set_cons_zero, List.set_cons_succ])) | (refine seq_skip rfl ?_ ?_; rfl; (try simp only [Act.put, List.setIfInBounds_toArray, List.set_cons_zero, List.set_cons_succ])))
              refine seq_run rfl (fun K hK => ?_)
              go_simp
              go_at_call 29
              refine (store_in W.heap.size _ p c _ _ _ (-1) j _ x HH1.out.mem (getD_at HJ.out) HH1.out.size (by have := HL.out; omega) z0 z1).mono ?_
              rintro r w7 ⟨rfl, v7, hT7⟩
              (try go_wp2_with fail)
              replace HCT := Lib.hid (HCT.out.keep hT7.keep HCF.out HNB.out)
              have HH7 := Lib.hid (HH1.out.store hT7)
              clear hT7 HH1
              refine hK.out _ _ (HCT.out) (fun _ => ?_)
              (try simp only [Act.put, List.setIfInBounds_toArray, List.set_cons_zero, List.set_cons_succ])
              clear hK K
              repeat (first | (refine seq_take (v := ?_) rfl ?_ ?_ ?_; rotate_left 1; rfl; (focus (intro wS hSw; obtain ⟨⟨k0, k1, k2, k3⟩, kx, ky⟩ := hSw; go_simp; first | done | with_reducible rfl)); (try simp only [Act.put, List.setIfInBounds_toArray, List.set_cons_zero, List.set_cons_succ])) | (refine seq_skip rfl ?_ ?_; rfl; (try simp only [Act.put, List.setIfInBounds_toArray, List.set_cons_zero, List.set_cons_succ])))
              refine seq_done ?_
              clear HCT HCF HNB
              have HC7 : Hid ((C.set j x).length = M) := by show _ = _; rw [List.length_set]; exact HC.out
              have HL7 : ∀ e : Ev, Hid ((L ++ [e]).length ≤ 41 * n + (q + 1)) := fun e => by show _ ≤ _; rw [List.length_append]; have := HL.out; simp; omega
              go_wp2_with fail
              go_roundw
              case rel => exact ⟨q + 1, v7, _, _, by omega, by go_num, HH7, HC7, HL7 _⟩
              case measure => simp [intOf]; omega
            · have qe : (th == (n : Int)) = false := by simp [he]
              have HH1 := Lib.hid (HH.out.later (below_new (Below.refl _ _) (.cells #[i64 th, i64 sl, .int .u64 x] 67)))
              clear he
              go_wp2_with fail
              go_roundw
              case rel => exact ⟨q + 1, v, _, _, by omega, by go_num, HH1, HC, by have := HL.out; show _ ≤ _; omega⟩
              case measure => simp [intOf]; omega
          · have hqe : ¬ (q : Int) < (len4 : Int) := by omega
            obtain ⟨j, hjs⟩ : ∃ j, k.slot = j := ⟨_, rfl⟩
            have hjN : j < N := hjs ▸ HSR.out.at'.slot_lt
            have hjeq : ((st : Int) + (n : Int)) % (N : Int) = (j : Int) := by
              rw [← Int.natCast_add, ← Int.natCast_emod, HSR.out.hn, show st + (P * N + r) = st + r + P * N by omega, Nat.add_mul_mod_self_right, ← HSR.out.at'.slot, hjs]
            have hjtm : ((st : Int) + (n : Int)).tmod (N : Int) = (j : Int) := by rw [Int.tmod_eq_emod_of_nonneg (by omega)]; exact hjeq
            have HJS := Lib.hid hjs
            have HJ : Hid (j < C.length) := by have := HC.out; have := HM.out; show _ < _; omega
            obtain ⟨x, hx⟩ : ∃ x, C.getD j 0 = x := ⟨_, rfl⟩
            have HXJ : Hid (C[j]? = some x) := by rw [← hx]; exact getD_at HJ.out
            have HXD := Lib.hid hx
            obtain ⟨q0, q1, q2, q3⟩ := HA.out.later HH.out.below Hs.out
            clear hjs hx HX
            go_wp2_with fail
            (try rw [hjeq])
            refine (cword_any _ _ _ _ _ _).mono ?_
            rintro r1 w5 ⟨rfl, hb5⟩
            have HH5 := Lib.hid (HH.out.later hb5)
            clear hb5 q0 q1 q2 q3 hjeq hjtm HH
            go_wp2_with fail
            refine (peek_in W.heap.size _ p c _ _ _ j x HH5.out.mem HXJ.out).mono ?_
            rintro r1 w' ⟨rfl, rfl⟩
            have hrow : w5.ownsRow W.heap.size 44 1 (.slice (some ⟨nb, 0, none⟩) N N) N (B.map (Value.int .u64)) := Hold.has HH5.out 3 _ rfl
            have hcn := row_at hrow hjN
            have hfn := hrow.frozenAt j
            have hjN' : (j : Int) < (N : Int) := by omega
            have HH6 : Hid (SnapHold W (w5.setCell ⟨nb, j, none⟩ (.int .u64 x)) p c v C L b g k [tRow W.heap.size 44 1 (.slice (some ⟨wb, 0, none⟩) N N) N (A.map (Value.int .u64)), tRow W.heap.size 44 1 (.slice (some ⟨nb, 0, none⟩) N N) N ((B.set j x).map (Value.int .u64))]) := by
              have h := Hold.stored HH5.out 3 rfl j (.int .u64 x)
              rw [← List.map_set] at h
              exact h
            have hmod : (n : Int) % (N : Int) = (r : Int) := by
              rw [← Int.natCast_emod, HSR.out.hn, show P * N + r = r + P * N by omega, Nat.add_mul_mod_self_right, Nat.mod_eq_of_lt hrN]
            have HMOD := Lib.hid hmod
            clear hrow hmod
            go_wp2_with fail
            refine (count_any W.heap.size _ p c v C L HH6.out.mem).mono ?_
            rintro r1 w' ⟨rfl, rfl⟩
            obtain ⟨LN, hLN⟩ : ∃ LN, L.length = LN := ⟨_, rfl⟩
            rw [hLN]
            have HLN := Lib.hid hLN
            clear hcn hfn HH5 hLN
            go_wp2_with fail
            refine (snwords_none W.heap.size _ b g k (by rw [HP.out]; decide) HH6.out.sn).mono ?_
            rintro r1 w' ⟨rfl, rfl⟩
            go_wp2_with fail
            refine (snpasses_any W.heap.size _ b g k HH6.out.sn).mono ?_
            rintro r1 w' ⟨rfl, rfl⟩
            rw [HSR.out.at'.passes]
            generalize hW6 : w5.setCell ⟨nb, j, none⟩ (.int .u64 x) = w6 at HH6 ⊢
            clear hW6
            have hmod : (n : Int) % (N : Int) = (r : Int) := HMOD.out
            have HOK : Hid (k.Ok N C) := HSR.out.at'.ok (by rw [HE.out.1, HE.out.2.1]; exact hlay) rfl (by rw [HE.out.1]; show (C.length : Int) = 2 * N + 2 * t; have := HC.out; have := HM.out; omega) (by omega)
            rcases (by omega : r + 1 < N ∨ r + 1 = N) with hr | hr
            · have qr : ((r : Int) == (N : Int) - 1) = false := by simp; omega
              have hmid := HSR.out.mid (C := C) hr
              rw [HJS.out, HXD.out] at hmid
              have HPH : Hid ((k.step C).ph = 0) := hmid.ph
              have HS2 : Hid ((∃ P' r', ((P : Nat) : Int) = ((P' : Nat) : Int) ∧ SRel (k.step C) N st (n + 1) r' P' A (B.set j x)) ∨ (∃ P' : Nat, ((P : Nat) : Int) = (P' : Int) ∧ n + 1 = P' * N ∧ SnAt (k.step C) N st 0 P' ∧ (k.step C).ph = 1 ∧ (k.step C).X = B.set j x)) := .inl ⟨P, r + 1, rfl, hmid⟩
              clear hmid
              go_wp2_with fail
              clear hmod
              have HST := Lib.hid (HH6.out.call HOK.out (by have := HL.out; omega))
              refine HST.out.mono ?_
              rintro r1 w8 ⟨rfl, v8, hH8⟩
              have HH8 := Lib.hid hH8
              clear hH8 HST
              rw [HPH.out]
              go_wp2_with fail
              refine (snphase_any W.heap.size _ b g _ HH8.out.sn).mono ?_
              rintro r1 w' ⟨rfl, rfl⟩
              rw [HPH.out]
              obtain ⟨q0, q1, q2, q3⟩ := HA.out.later HH8.out.below Hs.out
              go_wp2_with fail
              refine (cword_any _ _ _ _ _ _).mono ?_
              rintro r1 w9 ⟨rfl, hb9⟩
              have HH9 := Lib.hid (HH8.out.later hb9)
              clear hb9 q0 q1 q2 q3 HH8
              go_wp2_with fail
              have hev : k.ev C = [⟨k.who, 0, (j : Nat), x, x, true⟩] := by
                unfold Sn.ev
                rw [if_pos HP.out, HJS.out, HXD.out]
              have hMM := HH9.out.mem
              rw [hev] at hMM
              refine (touched_some W.heap.size _ p c v8 C L who 0 x j LN ⟨k.who, 0, (j : Nat), x, x, true⟩ HLN.out hMM (by have := HL.out; have := HLN.out; omega) HE.out.2.2.2.2 rfl rfl rfl HXJ.out).mono ?_
              rintro r1 w10 ⟨rfl, hb10⟩
              have HH10 := Lib.hid (HH9.out.later hb10)
              clear hb10 HH9 hMM hev
              have HL2 : Hid ((L ++ k.ev C).length ≤ 41 * (n + 1)) := by show _ ≤ _; rw [List.length_append]; have := HL.out; have := Sn.ev_le k C; omega
              have HE2 := Lib.hid (HE.out.trans (Snap.same C k))
              go_wp2_with fail
              go_roundw
              case rel => exact ⟨n + 1, (P : Int), v8, C, _, k.step C, A, (B.set j x), by omega, by go_num, by go_num, by rw [HPH.out], HH10, HS2, HE2, HC, HL2⟩
              case measure => simp [intOf]; omega
            · have hlst := HSR.out.last (C := C) hr
              rw [HJS.out, HXD.out] at hlst
              obtain ⟨l1, l2, l3, l4⟩ := hlst
              have qr : ((r : Int) == (N : Int) - 1) = true := by simp; omega
              have HA0 : Hid (A.length = N ∧ (B.set j x).length = N) := ⟨HSR.out.lenA, by rw [List.length_set]; exact HSR.out.lenB⟩
              generalize B.set j x = B1 at HH6 l2 l3 l4 HA0
              have Hl1 := Lib.hid l1
              have Hl2 := Lib.hid l2
              have Hl3 := Lib.hid l3
              have Hl4 := Lib.hid l4
              clear l1 l2 l3 l4
              obtain ⟨wo, rfl⟩ : ∃ wo : World, wo = wr := ⟨_, rfl⟩
              go_wp2_with fail
              clear hmod
              have HH7 : Hid (SnapHold W w6 p c v C L b g k [tRow W.heap.size 44 1 (.slice (some ⟨wb, 0, none⟩) N N) N ((part A B1 0).map (Value.int .u64)), tRow W.heap.size 44 1 (.slice (some ⟨nb, 0, none⟩) N N) N (B1.map (Value.int .u64))]) := by rw [part_0]; exact HH6.out
              clear HH6
              go_loopw [26, 133] (fun vs j wr => ∃ (e : Nat), e ≤ N ∧ j = .int .i64 e ∧ vs = .bool (decide (1 < (P : Int) + 1) && eqs B1 A e) ∧ Hid (SnapHold W wr p c v C L b g k [tRow W.heap.size 44 1 (.slice (some ⟨wb, 0, none⟩) N N) N ((part A B1 e).map (Value.int .u64)), tRow W.heap.size 44 1 (.slice (some ⟨nb, 0, none⟩) N N) N (B1.map (Value.int .u64))])) (fun _ j _ => N - (intOf j).toNat)
              case atStart => exact ⟨0, by omega, rfl, by simp [eqs], HH7⟩
              case round =>
                clear HH7
                obtain ⟨e, he, rfl, rfl, HH⟩ := hrel
                rcases Nat.lt_or_ge e N with heN | heN
                · have heN' : (e : Int) < (N : Int) := by omega
                  have hrw : wr.ownsRow W.heap.size 44 1 (.slice (some ⟨wb, 0, none⟩) N N) N ((part A B1 e).map (Value.int .u64)) := Hold.has HH.out 2 _ rfl
                  have hrn : wr.ownsRow W.heap.size 44 1 (.slice (some ⟨nb, 0, none⟩) N N) N (B1.map (Value.int .u64)) := Hold.has HH.out 3 _ rfl
                  have cw := row_at hrw heN
                  have cn := row_at hrn heN
                  have fw := hrw.frozenAt e
                  rw [part_at HA0.out.1 HA0.out.2 heN] at cw
                  have HH8 : Hid (SnapHold W (wr.drew.setCell ⟨wb, e, none⟩ (.int .u64 (B1.getD e 0))) p c v C L b g k [tRow W.heap.size 44 1 (.slice (some ⟨wb, 0, none⟩) N N) N ((part A B1 (e + 1)).map (Value.int .u64)), tRow W.heap.size 44 1 (.slice (some ⟨nb, 0, none⟩) N N) N (B1.map (Value.int .u64))]) := by
                    have h := Hold.stored (Hold.drew HH.out) 2 rfl e (.int .u64 (B1.getD e 0))
                    rw [← List.map_set, part_step HA0.out.1 HA0.out.2 heN] at h
                    exact h
                  have HE8 : Hid (eqs B1 A (e + 1) = (eqs B1 A e && (B1.getD e 0 == A.getD e 0))) := rfl
                  clear hrw hrn HH
                  obtain ⟨b0, hb0⟩ : ∃ b0 : Bool, (decide (1 < (P : Int) + 1) && eqs B1 A e) = b0 := ⟨_, rfl⟩
                  have HB0 := Lib.hid hb0
                  rw [hb0]
                  clear hb0
                  generalize B1.getD e 0 = y at cn HH8 HE8
                  generalize A.getD e 0 = z at cw HE8
                  cases b0 with
                  | false =>
                    go_wp2_with fail
                    refine wp_region_seq ((0, true) :: (1, true) :: (2, true) :: (3, true) :: (4, true) :: (5, true) :: (6, true) :: (7, true) :: (8, true) :: (9, true) :: (10, true) :: (11, true) :: (12, true) :: []) (by kernel_rfl) (by kernel_rfl) (by kernel_rfl) (by decide) (fun _ _ _ _ _ h => h) (fun hHeld => ?_)
                    repeat (first
                      | (refine seq_take (v := ?_) rfl ?_ ?_ ?_; rotate_left 1; rfl; (focus (intro wS hSw; have hk := below_rule hSw; go_simp; first | done | with_reducible rfl)); (try simp only [Act.put, List.setIfInBounds_toArray, List.set_cons_zero, List.set_cons_succ]))
                      | (refine seq_skip rfl ?_ ?_; rfl; (try simp only [Act.put, List.setIfInBounds_toArray, List.set_cons_zero, List.set_cons_succ]))
                      | (refine seq_run rfl (fun K hK => ?_); go_simp; (try skip); (try go_wp2_with fail); refine hK.out _ _ ?_ ?_; (focus (first | exact below_step hHeld hb' | exact below_new hHeld _ | exact hHeld)); (try clear hb'); clear hHeld hK K; intro hHeld; (try simp only [Act.put, List.setIfInBounds_toArray, List.set_cons_zero, List.set_cons_succ])))
                    first | refine seq_done ?_ | skip
                    clear hHeld
                    go_wp2_with fail
                    go_roundw
                    case rel => exact ⟨e + 1, by omega, by go_num, by rw [HE8.out, ← Bool.and_assoc, HB0.out]; rfl, HH8⟩
                    case measure => simp [intOf]; omega
                  | true =>
                    have HYZ : Hid ((y == z) = (y == z)) := rfl
                    go_wp2_with fail
                    refine wp_region_seq ((0, true) :: (1, true) :: (2, true) :: (3, true) :: (4, true) :: (5, true) :: (6, true) :: (7, true) :: (8, true) :: (9, true) :: (10, true) :: (11, true) :: (12, true) :: []) (by kernel_rfl) (by kernel_rfl) (by kernel_rfl) (by decide) (fun _ _ _ _ _ h => h) (fun hHeld => ?_)
                    repeat (first
                      | (refine seq_take (v := ?_) rfl ?_ ?_ ?_; rotate_left 1; rfl; (focus (intro wS hSw; have hk := below_rule hSw; go_simp; first | done | with_reducible rfl)); (try simp only [Act.put, List.setIfInBounds_toArray, List.set_cons_zero, List.set_cons_succ]))
                      | (refine seq_skip rfl ?_ ?_; rfl; (try simp only [Act.put, List.setIfInBounds_toArray, List.set_cons_zero, List.set_cons_succ]))
                      | (refine seq_run rfl (fun K hK => ?_); go_simp; (try skip); (try go_wp2_with fail); refine hK.out _ _ ?_ ?_; (focus (first | exact below_step hHeld hb' | exact below_new hHeld _ | exact hHeld)); (try clear hb'); clear hHeld hK K; intro hHeld; (try simp only [Act.put, List.setIfInBounds_toArray, List.set_cons_zero, List.set_cons_succ])))
                    first | refine seq_done ?_ | skip
                    clear hHeld
                    go_wp2_with fail
                    go_roundw
                    case rel => exact ⟨e + 1, by omega, by go_num, by rw [HE8.out, ← Bool.and_assoc, HB0.out, Bool.true_and], HH8⟩
                    case measure => simp [intOf]; omega
                · obtain rfl : N = e := by omega
                  have hnn : ¬ (N : Int) < (N : Int) := by omega
                  rw [part_all HA0.out.1 HA0.out.2] at HH
                  have HH6 := HH
                  clear HH
                  have hsame : (decide (1 < (P : Int) + 1) && eqs B1 A N) = decide (1 ≤ P ∧ B1 = A) := by
                    rw [eqs_len HA0.out.2 HA0.out.1]
                    by_cases h1 : 1 ≤ P
                    · rw [decide_eq_true (by omega : (1 : Int) < (P : Int) + 1), Bool.true_and]
                      simp [h1]
                    · rw [decide_eq_false (by omega : ¬ (1 : Int) < (P : Int) + 1), Bool.false_and]
                      simp [h1]
                  rw [hsame]
                  clear hsame
                  by_cases hd : 1 ≤ P ∧ B1 = A
                  · have h3 := Hl3.out
                    rw [if_pos hd] at h3
                    have HPH : Hid ((k.step C).ph = 1) := h3
                    have HS2 : Hid ((∃ P' r', ((P : Nat) : Int) + 1 = ((P' : Nat) : Int) ∧ SRel (k.step C) N st (n + 1) r' P' B1 B1) ∨ (∃ P' : Nat, ((P : Nat) : Int) + 1 = (P' : Int) ∧ n + 1 = P' * N ∧ SnAt (k.step C) N st 0 P' ∧ (k.step C).ph = 1 ∧ (k.step C).X = B1)) := .inr ⟨P + 1, by omega, by have := HSR.out.hn; rw [Nat.add_mul]; omega, Hl1.out, h3, Hl2.out⟩
                    rw [decide_eq_true hd]
                    clear hd h3
                    go_wp2_with fail
                    have HST := Lib.hid (HH6.out.call HOK.out (by have := HL.out; omega))
                    refine HST.out.mono ?_
                    rintro r1 w8 ⟨rfl, v8, hH8⟩
                    have HH8 := Lib.hid hH8
                    clear hH8 HST
                    rw [HPH.out]
                    go_wp2_with fail
                    refine (snphase_any W.heap.size _ b g _ HH8.out.sn).mono ?_
                    rintro r1 w' ⟨rfl, rfl⟩
                    rw [HPH.out]
                    obtain ⟨q0, q1, q2, q3⟩ := HA.out.later HH8.out.below Hs.out
                    go_wp2_with fail
                    refine (cword_any _ _ _ _ _ _).mono ?_
                    rintro r1 w9 ⟨rfl, hb9⟩
                    have HH9 := Lib.hid (HH8.out.later hb9)
                    clear hb9 q0 q1 q2 q3 HH8
                    go_wp2_with fail
                    have hev : k.ev C = [⟨k.who, 0, (j : Nat), x, x, true⟩] := by
                      unfold Sn.ev
                      rw [if_pos HP.out, HJS.out, HXD.out]
                    have hMM := HH9.out.mem
                    rw [hev] at hMM
                    refine (touched_some W.heap.size _ p c v8 C L who 0 x j LN ⟨k.who, 0, (j : Nat), x, x, true⟩ HLN.out hMM (by have := HL.out; have := HLN.out; omega) HE.out.2.2.2.2 rfl rfl rfl HXJ.out).mono ?_
                    rintro r1 w10 ⟨rfl, hb10⟩
                    have HH10 := Lib.hid (HH9.out.later hb10)
                    clear hb10 HH9 hMM hev
                    have HL2 : Hid ((L ++ k.ev C).length ≤ 41 * (n + 1)) := by show _ ≤ _; rw [List.length_append]; have := HL.out; have := Sn.ev_le k C; omega
                    have HE2 := Lib.hid (HE.out.trans (Snap.same C k))
                    go_wp2_with fail
                    go_roundw
                    case rel => exact ⟨n + 1, ((P : Int) + 1), v8, C, _, k.step C, B1, B1, by omega, by go_num, by go_num, by rw [HPH.out], HH10, HS2, HE2, HC, HL2⟩
                    case measure => simp [intOf]; omega
                  · have h3 := Hl3.out
                    rw [if_neg hd] at h3
                    have HPH : Hid ((k.step C).ph = 0) := h3
                    have HS2 : Hid ((∃ P' r', ((P : Nat) : Int) + 1 = ((P' : Nat) : Int) ∧ SRel (k.step C) N st (n + 1) r' P' B1 B1) ∨ (∃ P' : Nat, ((P : Nat) : Int) + 1 = (P' : Int) ∧ n + 1 = P' * N ∧ SnAt (k.step C) N st 0 P' ∧ (k.step C).ph = 1 ∧ (k.step C).X = B1)) := .inl ⟨P + 1, 0, by omega, Hl4.out h3⟩
                    rw [decide_eq_false hd]
                    clear hd h3
                    go_wp2_with fail
                    have HST := Lib.hid (HH6.out.call HOK.out (by have := HL.out; omega))
                    refine HST.out.mono ?_
                    rintro r1 w8 ⟨rfl, v8, hH8⟩
                    have HH8 := Lib.hid hH8
                    clear hH8 HST
                    rw [HPH.out]
                    go_wp2_with fail
                    refine (snphase_any W.heap.size _ b g _ HH8.out.sn).mono ?_
                    rintro r1 w' ⟨rfl, rfl⟩
                    rw [HPH.out]
                    obtain ⟨q0, q1, q2, q3⟩ := HA.out.later HH8.out.below Hs.out
                    go_wp2_with fail
                    refine (cword_any _ _ _ _ _ _).mono ?_
                    rintro r1 w9 ⟨rfl, hb9⟩
                    have HH9 := Lib.hid (HH8.out.later hb9)
                    clear hb9 q0 q1 q2 q3 HH8
                    go_wp2_with fail
                    have hev : k.ev C = [⟨k.who, 0, (j : Nat), x, x, true⟩] := by
                      unfold Sn.ev
                      rw [if_pos HP.out, HJS.out, HXD.out]
                    have hMM := HH9.out.mem
                    rw [hev] at hMM
                    refine (touched_some W.heap.size _ p c v8 C L who 0 x j LN ⟨k.who, 0, (j : Nat), x, x, true⟩ HLN.out hMM (by have := HL.out; have := HLN.out; omega) HE.out.2.2.2.2 rfl rfl rfl HXJ.out).mono ?_
                    rintro r1 w10 ⟨rfl, hb10⟩
                    have HH10 := Lib.hid (HH9.out.later hb10)
                    clear hb10 HH9 hMM hev
                    have HL2 : Hid ((L ++ k.ev C).length ≤ 41 * (n + 1)) := by show _ ≤ _; rw [List.length_append]; have := HL.out; have := Sn.ev_le k C; omega
                    have HE2 := Lib.hid (HE.out.trans (Snap.same C k))
                    go_wp2_with fail
                    go_roundw
                    case rel => exact ⟨n + 1, ((P : Int) + 1), v8, C, _, k.step C, B1, B1, by omega, by go_num, by go_num, by rw [HPH.out], HH10, HS2, HE2, HC, HL2⟩
                    case measure => simp [intOf]; omega
      · have hn8' : ¬ (n : Int) < 8 * (N : Int) := by omega
        have hbf := Lib.hid (below_step' HB.out HH.out.below HB.out.size)
        go_wp2
        go_ret
        exact ⟨rfl, hbf.out⟩
    · rw [hp1]
      rcases Nat.lt_or_ge n (8 * N) with hn8 | hn8
      · have hn8' : (n : Int) < 8 * (N : Int) := by omega
        have HPH := Lib.hid hp1
        have hrow : wr.ownsRow W.heap.size 44 1 (.slice (some ⟨nb, 0, none⟩) N N) N (B.map (Value.int .u64)) := Hold.has HH.out 3 _ rfl
        have HROW := Lib.hid hrow
        have HAT := Lib.hid hAt
        have HXB := Lib.hid hX
        have HPB := Lib.hid hPn
        clear hrow hAt hX hp1 hPn HS
        go_wp2_with fail
        refine (snwords_any W.heap.size _ b g k HPH.out (by rw [HAT.out.hN]; omega) HH.out.sn).mono ?_
        rintro r1 w5 ⟨h5, rfl, ho5, hb5⟩
        rw [HAT.out.hN] at ho5 ⊢
        have HH5 := Lib.hid (HH.out.later hb5)
        have HG : Hid (∀ e, e < N → w5.cell? ⟨h5, e, none⟩ = some (.int .u64 (B.getD e 0)) ∧ w5.cell? ⟨nb, e, none⟩ = some (.int .u64 (B.getD e 0))) := fun e he => by
          have hr5 := (Keep.of_below (T := fun _ => False) hb5).row HROW.out (fun _ _ h => h)
          refine ⟨?_, row_at hr5 he⟩
          rw [← HXB.out]
          exact row_at ho5 he
        clear ho5 hb5 HH HROW
        go_wp2_with fail
        refine (snpasses_any W.heap.size _ b g k HH5.out.sn).mono ?_
        rintro r1 w' ⟨rfl, rfl⟩
        rw [HAT.out.passes]
        obtain ⟨wo, rfl⟩ : ∃ wo : World, wo = wr := ⟨_, rfl⟩
        go_wp2_with fail
        have HB5 : Hid (Below w5.heap.size w5 w5) := Below.refl _ _
        go_loopw [195] (fun j wr => ∃ e : Nat, e ≤ N ∧ j = .int .i64 e ∧ Hid (Below w5.heap.size w5 wr)) (fun j _ => N - (intOf j).toNat)
        case atStart => exact ⟨0, by omega, rfl, HB5⟩
        case round =>
          clear HB5
          obtain ⟨e, he, rfl, HB5⟩ := hrel
          rcases Nat.lt_or_ge e N with heN | heN
          · obtain ⟨g1, g2⟩ := HG.out e heN
            replace g1 := (HB5.out.cell (p := ⟨h5, e, none⟩) (World.block_lt_of_cell? w5 _ g1)).trans g1
            replace g2 := (HB5.out.cell (p := ⟨nb, e, none⟩) (World.block_lt_of_cell? w5 _ g2)).trans g2
            generalize B.getD e 0 = x at g1 g2
            have heN' : (e : Int) < (N : Int) := by omega
            go_wp2_with fail
            refine wp_region_seq ((0, true) :: (1, true) :: (2, true) :: (3, true) :: (4, true) :: (5, true) :: (6, true) :: (7, true) :: (8, true) :: []) (by kernel_rfl) (by kernel_rfl) (by kernel_rfl) (by decide) (fun _ _ _ _ _ h => h) (fun hHeld => ?_)
            repeat (first
              | (refine seq_take (v := ?_) rfl ?_ ?_ ?_; rotate_left 1; rfl; (focus (intro wS hSw; have hk := below_rule hSw; go_simp; first | done | with_reducible rfl)); (try simp only [Act.put, List.setIfInBounds_toArray, List.set_cons_zero, List.set_cons_succ]))
              | (refine seq_skip rfl ?_ ?_; rfl; (try simp only [Act.put, List.setIfInBounds_toArray, List.set_cons_zero, List.set_cons_succ]))
              | (refine seq_run rfl (fun K hK => ?_); go_simp; (try skip); (try go_wp2_with fail); refine hK.out _ _ ?_ ?_; (focus (first | exact below_step hHeld hb' | exact below_new hHeld _ | exact hHeld)); (try clear hb'); clear hHeld hK K; intro hHeld; (try simp only [Act.put, List.setIfInBounds_toArray, List.set_cons_zero, List.set_cons_succ])))
            first | refine seq_done ?_ | skip
            have HB6 := Lib.hid (below_step HB5.out hHeld)
            go_wp2_with fail
            go_roundw
            case rel => exact ⟨e + 1, by omega, by go_num, HB6⟩
            case measure => simp [intOf]; omega
          · have heN' : ¬ (e : Int) < (N : Int) := by omega
            have HHf := Lib.hid (HH5.out.later HB5.out)
            clear HB5 HH5
            go_wp2_with fail
            refine (count_any W.heap.size _ p c v C L HHf.out.mem).mono ?_
            rintro r1 w' ⟨rfl, rfl⟩
            obtain ⟨LN, hLN⟩ : ∃ LN, L.length = LN := ⟨_, rfl⟩
            rw [hLN]
            have HLN := Lib.hid hLN
            clear hLN
            go_wp2_with fail
            refine (snstep_rest W.heap.size _ b g p c v C L k (by rw [HPH.out]; decide) HHf.out.sn HHf.out.mem (fun i hi => Hold.free HHf.out 0 1 (by decide) rfl rfl i hi) HHf.out.size).mono ?_
            rintro r1 w8 ⟨rfl, v8, hd8, hs8⟩
            have HH8 := Lib.hid (HHf.out.does hd8 hs8)
            clear hd8 hs8
            rw [HPH.out]
            go_wp2_with fail
            refine (count_any W.heap.size _ p c v8 C L HH8.out.mem).mono ?_
            rintro r1 w' ⟨rfl, rfl⟩
            rw [HLN.out]
            have hbf := Lib.hid (below_step' HB.out HH8.out.below HB.out.size)
            go_wp2
            go_ret
            exact ⟨rfl, hbf.out⟩
      · have hn8' : ¬ (n : Int) < 8 * (N : Int) := by omega
        have HPH := Lib.hid hp1
        have hrow : wr.ownsRow W.heap.size 44 1 (.slice (some ⟨nb, 0, none⟩) N N) N (B.map (Value.int .u64)) := Hold.has HH.out 3 _ rfl
        have HROW := Lib.hid hrow
        have HAT := Lib.hid hAt
        have HXB := Lib.hid hX
        have HPB := Lib.hid hPn
        clear hrow hAt hX hp1 hPn HS
        go_wp2_with fail
        refine (snwords_any W.heap.size _ b g k HPH.out (by rw [HAT.out.hN]; omega) HH.out.sn).mono ?_
        rintro r1 w5 ⟨h5, rfl, ho5, hb5⟩
        rw [HAT.out.hN] at ho5 ⊢
        have HH5 := Lib.hid (HH.out.later hb5)
        have HG : Hid (∀ e, e < N → w5.cell? ⟨h5, e, none⟩ = some (.int .u64 (B.getD e 0)) ∧ w5.cell? ⟨nb, e, none⟩ = some (.int .u64 (B.getD e 0))) := fun e he => by
          have hr5 := (Keep.of_below (T := fun _ => False) hb5).row HROW.out (fun _ _ h => h)
          refine ⟨?_, row_at hr5 he⟩
          rw [← HXB.out]
          exact row_at ho5 he
        clear ho5 hb5 HH HROW
        go_wp2_with fail
        refine (snpasses_any W.heap.size _ b g k HH5.out.sn).mono ?_
        rintro r1 w' ⟨rfl, rfl⟩
        rw [HAT.out.passes]
        obtain ⟨wo, rfl⟩ : ∃ wo : World, wo = wr := ⟨_, rfl⟩
        go_wp2_with fail
        have HB5 : Hid (Below w5.heap.size w5 w5) := Below.refl _ _
        go_loopw [195] (fun j wr => ∃ e : Nat, e ≤ N ∧ j = .int .i64 e ∧ Hid (Below w5.heap.size w5 wr)) (fun j _ => N - (intOf j).toNat)
        case atStart => exact ⟨0, by omega, rfl, HB5⟩
        case round =>
          clear HB5
          obtain ⟨e, he, rfl, HB5⟩ := hrel
          rcases Nat.lt_or_ge e N with heN | heN
          · obtain ⟨g1, g2⟩ := HG.out e heN
            replace g1 := (HB5.out.cell (p := ⟨h5, e, none⟩) (World.block_lt_of_cell? w5 _ g1)).trans g1
            replace g2 := (HB5.out.cell (p := ⟨nb, e, none⟩) (World.block_lt_of_cell? w5 _ g2)).trans g2
            generalize B.getD e 0 = x at g1 g2
            have heN' : (e : Int) < (N : Int) := by omega
            go_wp2_with fail
            refine wp_region_seq ((0, true) :: (1, true) :: (2, true) :: (3, true) :: (4, true) :: (5, true) :: (6, true) :: (7, true) :: (8, true) :: []) (by kernel_rfl) (by kernel_rfl) (by kernel_rfl) (by decide) (fun _ _ _ _ _ h => h) (fun hHeld => ?_)
            repeat (first
              | (refine seq_take (v := ?_) rfl ?_ ?_ ?_; rotate_left 1; rfl; (focus (intro wS hSw; have hk := below_rule hSw; go_simp; first | done | with_reducible rfl)); (try simp only [Act.put, List.setIfInBounds_toArray, List.set_cons_zero, List.set_cons_succ]))
              | (refine seq_skip rfl ?_ ?_; rfl; (try simp only [Act.put, List.setIfInBounds_toArray, List.set_cons_zero, List.set_cons_succ]))
              | (refine seq_run rfl (fun K hK => ?_); go_simp; (try skip); (try go_wp2_with fail); refine hK.out _ _ ?_ ?_; (focus (first | exact below_step hHeld hb' | exact below_new hHeld _ | exact hHeld)); (try clear hb'); clear hHeld hK K; intro hHeld; (try simp only [Act.put, List.setIfInBounds_toArray, List.set_cons_zero, List.set_cons_succ])))
            first | refine seq_done ?_ | skip
            have HB6 := Lib.hid (below_step HB5.out hHeld)
            go_wp2_with fail
            go_roundw
            case rel => exact ⟨e + 1, by omega, by go_num, HB6⟩
            case measure => simp [intOf]; omega
          · have heN' : ¬ (e : Int) < (N : Int) := by omega
            have HHf := Lib.hid (HH5.out.later HB5.out)
            clear HB5 HH5
            go_wp2_with fail
            refine (count_any W.heap.size _ p c v C L HHf.out.mem).mono ?_
            rintro r1 w' ⟨rfl, rfl⟩
            obtain ⟨LN, hLN⟩ : ∃ LN, L.length = LN := ⟨_, rfl⟩
            rw [hLN]
            have HLN := Lib.hid hLN
            clear hLN
            go_wp2_with fail
            refine (snstep_rest W.heap.size _ b g p c v C L k (by rw [HPH.out]; decide) HHf.out.sn HHf.out.mem (fun i hi => Hold.free HHf.out 0 1 (by decide) rfl rfl i hi) HHf.out.size).mono ?_
            rintro r1 w8 ⟨rfl, v8, hd8, hs8⟩
            have HH8 := Lib.hid (HHf.out.does hd8 hs8)
            clear hd8 hs8
            rw [HPH.out]
            go_wp2_with fail
            refine (count_any W.heap.size _ p c v8 C L HH8.out.mem).mono ?_
            rintro r1 w' ⟨rfl, rfl⟩
            rw [HLN.out]
            have hbf := Lib.hid (below_step' HB.out HH8.out.below HB.out.size)
            go_wp2
            go_ret
            exact ⟨rfl, hbf.out⟩

end Go.Proofs.Ytgpdoihgnpkanaa
