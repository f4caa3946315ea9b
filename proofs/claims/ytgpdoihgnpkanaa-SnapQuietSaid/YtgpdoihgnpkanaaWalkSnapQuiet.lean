/-
  SnapQuiet answers true for all numbers and every list of words, and leaves all memory that was there as it was. No condition.
-/
import Derived.Test.YtgpdoihgnpkanaaSnapPure2
import Derived.Test.YtgpdoihgnpkanaaRows2
import Derived.Test.YtgpdoihgnpkanaaWalkMemSums
namespace Go.Proofs.Ytgpdoihgnpkanaa
open Go.RowKit
set_option linter.unusedVariables false

theorem rows_u64' {w : World} {a0 : Option Addr} {len cap : Nat} (h : IsRows w [.inl .u64] a0 len cap) :
    ∃ b off, ∃ X : Nat → Int, ∀ i, i < len → a0 = some ⟨b, off, none⟩ ∧ len ≤ cap ∧ b < w.heap.size ∧ w.cell? ⟨b, off + i, none⟩ = some (u64 (X i)) ∧ 0 ≤ X i ∧ X i ≤ 18446744073709551615 := by
  rcases Nat.eq_zero_or_pos len with h0 | h0
  · exact ⟨0, 0, fun _ => 0, fun i hi => by omega⟩
  · obtain ⟨b, off, X, h1, h2, h3, h4⟩ := rows_u64 h h0
    exact ⟨b, off, X, fun i hi => ⟨h1, h2, h3, h4 i hi⟩⟩

/-- The layout's box and a cell of a list. -/
def AtCE (cb tb o : Nat) (t s x : Int) (w : World) : Prop := AtC w cb t s 0 0 ∧ w.cell? ⟨tb, o, none⟩ = some (u64 x)
theorem AtCE.keep {cb tb o : Nat} {t s x : Int} {w w' : World} {T : Nat → Prop} (h : AtCE cb tb o t s x w) (k : Keep T w w') (hc : ¬ T cb) (ht : ¬ T tb) : AtCE cb tb o t s x w' := ⟨h.1.keep k hc, k.cell h.2 ht⟩
theorem AtCE.later {cb tb o : Nat} {t s x : Int} {w w' : World} (h : AtCE cb tb o t s x w) (k : Below w.heap.size w w') : AtCE cb tb o t s x w' :=
  h.keep (Keep.of_below (T := fun _ => False) k) (fun h => h) (fun h => h)

section
variable {W w : World} {p c b g b2 g2 : Nat} {v : Value} {C : List Int} {L : List Ev} {k k2 : Sn}
/-- The other snap's step. -/
theorem SnapHold.call2 {n : Int} (h : SnapHold W w p c v C L b g k [tSn W.heap.size b2 g2 k2]) (hk : k2.Ok n C) (hL : L.length < 1000000000) :
    Calls Try.prog 37 #[pt b2, pt p] w fun r w' => r = .returned (i64 (k2.step C).ph) ∧ ∃ v', SnapHold W w' p c v' C (L ++ k2.ev C) b g k [tSn W.heap.size b2 g2 (k2.step C)] :=
  (snstep_any W.heap.size w b2 g2 p c v C L k2 n hk (Hold.has h 2 _ rfl) h.mem (fun i hi => Hold.free h 0 2 (by decide) rfl rfl i hi) h.size hL).mono fun r w' ⟨hr, v', hd, hs⟩ => ⟨hr, v', Hold.does h 0 2 (by decide) rfl rfl hd (tSn_ok _ _ _ _) hs (fun q hq => hq)⟩
theorem SnapHold.sn2 (h : SnapHold W w p c v C L b g k [tSn W.heap.size b2 g2 k2]) : IsSn W.heap.size w b2 g2 k2 := Hold.has h 2 _ rfl
end

set_option maxRecDepth 100000 in
set_option maxHeartbeats 8000000 in
theorem walk_SnapQuiet (a0 : Int) (a1 : Int) (a2 : Int) (a3 : Int) (a4 : Option Addr) (len4 cap4 : Nat) (w : World) (w0 : (Lit.int .i64 a0).wf = true) (w1 : (Lit.int .i64 a1).wf = true) (w2 : (Lit.int .i64 a2).wf = true) (w3 : (Lit.int .i64 a3).wf = true) (w4 : IsRows w [.inl .u64] a4 len4 cap4) :
    Calls Try.prog 9 #[.int .i64 a0, .int .i64 a1, .int .i64 a2, .int .i64 a3, .slice a4 len4 cap4] w fun e w' => e = .returned (.bool true) ∧ Below w.heap.size w w' := by
  clear w0 w1 w2 w3
  by_cases hbig : 64 < len4
  · have hbig' : (64 : Int) < (len4 : Int) := by omega
    clear w4
    go_enter Try.func9, Try.ntmps9
    go_wp2_with fail
    refine (head7_any _).mono ?_
    rintro e w1 ⟨rfl, hb1⟩
    go_wp2_with fail
    go_ret
    exact ⟨rfl, hb1⟩
  have p0 : decide ((64 : Int) < (len4 : Int)) = false := decide_eq_false (by omega)
  have W4 := Lib.hid w4
  clear w4
  go_enter Try.func9, Try.ntmps9
  go_wp2_with fail
  refine (head7_any _).mono ?_
  rintro e w1 ⟨rfl, hb1⟩
  go_wp2_with fail
  refine (conf2_any _ _ _).mono ?_
  rintro e w2 ⟨t, s, rfl, t1, t2, s1, s2, hb2⟩
  have ht0 : (t == 0) = false := by simp; omega
  have hB2 := Lib.hid (below_step hb1 hb2)
  clear hb1 hb2
  obtain ⟨N, hNe, hlay, hN1, hN2⟩ := lay44 t1 t2 s1 s2
  have hn0 : ¬ N = 0 := by omega
  clear hNe
  go_wp2_with fail
  have hA := AtC.made w2 t s 0 0
  have hB3 := below_new (Below.refl w2.heap.size w2) (.cells #[.int .i64 t, .int .i64 s, .int .i64 0, .int .i64 0] 27)
  have hs3 : w2.heap.size < (w2.alloc (.cells #[.int .i64 t, .int .i64 s, .int .i64 0, .int .i64 0] 27)).heap.size := by simp
  have HA := Lib.hid hA
  have HB := Lib.hid (below_step hB2.out hB3)
  have Hs := Lib.hid hs3
  clear hA hB3 hs3 hB2
  generalize w2.alloc (.cells #[.int .i64 t, .int .i64 s, .int .i64 0, .int .i64 0] 27) = W at HA HB Hs ⊢
  generalize w2.heap.size = cb at HA Hs ⊢
  clear w2 w1
  refine (ccells_any t s 0 0 N _ hlay).mono ?_
  rintro r w2 ⟨rfl, hb2⟩
  obtain ⟨M, hM⟩ : ∃ M : Nat, 2 * (N : Int) + 2 * t = (M : Int) := ⟨(2 * (N : Int) + 2 * t).toNat, by omega⟩
  have HM := Lib.hid hM
  rw [hM]
  clear hM
  have hb12 := hb2
  clear hb2
  go_wp2_with fail
  refine (new_nat W.heap.size M M _ hb12.size (by have := HM.out; omega) (.inl rfl)).mono ?_
  rintro r w3 ⟨p, c, rfl, hM3, hb3, hp, hc⟩
  have HH : Hid (Hold W w3 [tMem W.heap.size p c (.slice none 0 0) (List.replicate M 0) []]) := (Hold.nil hb12).more hb3 (tMem_ok _ _ _ _ _ _) hM3 (fun q hq => by
    rcases hq with rfl | rfl | hq
    · exact hp
    · exact hc
    · cases hq)
  have HL0 : Hid ((List.replicate M (0 : Int)).length = M) := List.length_replicate
  clear hM3 hb3 hp hc hb12
  obtain ⟨tb, off, X, HX⟩ := rows_u64' W4.out
  go_wp2_with fail
  go_loopw [13] (fun i wr => ∃ (e : Nat) (v : Value) (C : List Int) (L : List Ev), e ≤ N ∧ i = .int .i64 e ∧ Hid (Hold W wr [tMem W.heap.size p c v C L]) ∧ Hid (C.length = M) ∧ Hid (L.length ≤ e)) (fun i _ => N - (intOf i).toNat)
  case atStart => exact ⟨0, _, _, _, by omega, rfl, HH, HL0, Nat.zero_le _⟩
  case round =>
    clear HH HL0
    obtain ⟨e, v, C, L, he, rfl, HH, HC, HL⟩ := hrel
    obtain ⟨q0, q1, q2, q3⟩ := HA.out.later HH.out.below Hs.out
    go_wp2_with fail
    refine (call_any t s 0 0 N _ hlay).mono ?_
    rintro r w5 ⟨rfl, hb5⟩
    replace HH := Lib.hid (HH.out.later hb5)
    clear hb5 q0 q1 q2 q3
    rcases Nat.lt_or_ge e N with heN | heN
    · have heN' : (e : Int) < (N : Int) := by omega
      rcases Nat.lt_or_ge e len4 with hel | hel
      · obtain ⟨rfl, hcap, htb, hx0, z0, z1⟩ := HX e hel
        have hel' : (e : Int) < (len4 : Int) := by omega
        have hwW : Below w.heap.size w w5 := below_step' HB.out HH.out.below HB.out.size
        have gx := (hwW.cell (p := ⟨tb, _, none⟩) htb).trans hx0
        generalize X e = x at gx z0 z1
        have hM5 : IsMem W.heap.size w5 p c v C L := HH.out.has 0 _ rfl
        have hcf : ¬ Foot p c v cb := fun hf => by have := (hM5.foot _ hf).1; have := Hs.out; omega
        have htf : ¬ Foot p c v tb := fun hf => by have := (hM5.foot _ hf).1; have := HB.out.size; omega
        have HCT : Hid (AtCE cb tb (off + e) t s x w5) := ⟨HA.out.later HH.out.below Hs.out, gx⟩
        have HJ : Hid (e < C.length) := by have := HC.out; have := HM.out; show _ < _; omega
        have HCF := Lib.hid hcf
        have HTF := Lib.hid htf
        clear hx0 hwW hM5 hcf htf HX
        go_wp2_with fail
        refine wp_region_seqS ((AtCE cb tb (off + e) t s x)) ((0, true) :: (1, true) :: (2, true) :: (4, true) :: (5, true) :: (6, true) :: (7, true) :: (3, false) :: (8, false) :: []) (by kernel_rfl) (by kernel_rfl) (by kernel_rfl) (by decide) (fun _ _ _ _ _ h => h) ((HCT.out.later (Below.refl _ _).drew)) ?_
        replace HCT := Lib.hid (HCT.out.later (Below.refl _ _).drew)
        replace HH := Lib.hid HH.out.drew
        clear gx
        repeat (first | (refine seq_take (v := ?_) rfl ?_ ?_ ?_; rotate_left 1; rfl; (focus (intro wS hSw; obtain ⟨⟨k0, k1, k2, k3⟩, kx⟩ := hSw; go_simp; first | done | with_reducible rfl)); (try simp only [Act.put, List.setIfInBounds_toArray, List.set_cons_zero, List.set_cons_succ])) | (refine seq_skip rfl ?_ ?_; rfl; (try simp only [Act.put, List.setIfInBounds_toArray, List.set_cons_zero, List.set_cons_succ])))
        refine seq_run rfl (fun K hK => ?_)
        go_simp
        go_at_call 20
        refine (cword_any _ _ _ _ _ _).mono ?_
        rintro r w6 ⟨rfl, hb6⟩
        (try go_wp2_with fail)
        replace HCT := Lib.hid (HCT.out.later hb6)
        replace HH := Lib.hid (HH.out.later hb6)
        clear hb6
        refine hK.out _ _ (HCT.out) (fun _ => ?_)
        (try simp only [Act.put, List.setIfInBounds_toArray, List.set_cons_zero, List.set_cons_succ])
        clear hK K
        repeat (first | (refine seq_take (v := ?_) rfl ?_ ?_ ?_; rotate_left 1; rfl; (focus (intro wS hSw; obtain ⟨⟨k0, k1, k2, k3⟩, kx⟩ := hSw; go_simp; first | done | with_reducible rfl)); (try simp only [Act.put, List.setIfInBounds_toArray, List.set_cons_zero, List.set_cons_succ])) | (refine seq_skip rfl ?_ ?_; rfl; (try simp only [Act.put, List.setIfInBounds_toArray, List.set_cons_zero, List.set_cons_succ])))
        refine seq_run rfl (fun K hK => ?_)
        go_simp
        go_at_call 29
        refine (store_in W.heap.size _ p c _ _ _ (-1) e _ x (HH.out.has 0 _ rfl) (getD_at HJ.out) HH.out.size (by have := HL.out; omega) z0 z1).mono ?_
        rintro r w7 ⟨rfl, v7, hT7⟩
        (try go_wp2_with fail)
        replace HCT := Lib.hid (HCT.out.keep hT7.keep HCF.out HTF.out)
        have HH7 := Lib.hid (HH.out.mem 0 rfl hT7)
        clear hT7 HH
        refine hK.out _ _ (HCT.out) (fun _ => ?_)
        (try simp only [Act.put, List.setIfInBounds_toArray, List.set_cons_zero, List.set_cons_succ])
        clear hK K
        repeat (first | (refine seq_take (v := ?_) rfl ?_ ?_ ?_; rotate_left 1; rfl; (focus (intro wS hSw; obtain ⟨⟨k0, k1, k2, k3⟩, kx⟩ := hSw; go_simp; first | done | with_reducible rfl)); (try simp only [Act.put, List.setIfInBounds_toArray, List.set_cons_zero, List.set_cons_succ])) | (refine seq_skip rfl ?_ ?_; rfl; (try simp only [Act.put, List.setIfInBounds_toArray, List.set_cons_zero, List.set_cons_succ])))
        refine seq_done ?_
        clear HCT HCF HTF
        go_wp2_with fail
        go_roundw
        case rel => exact ⟨e + 1, v7, _, _, by omega, by go_num, HH7, by show _ = _; rw [List.length_set]; exact HC.out, by show _ ≤ _; rw [List.length_append]; have := HL.out; simp; omega⟩
        case measure => simp [intOf]; omega
      · have hel' : ¬ (e : Int) < (len4 : Int) := by omega
        obtain ⟨q0, q1, q2, q3⟩ := HA.out.later HH.out.below Hs.out
        go_wp2_with fail
        refine (snnew_any W.heap.size _ t s 0 0 0 a2 N N hlay rfl HH.out.size).mono ?_
        rintro r w6 ⟨b, g, rfl, hS6, hb6, hbb, hbg⟩
        obtain ⟨st, hst, hst2⟩ : ∃ st : Nat, IntKind.u64.wrap a2 % (N : Int) = (st : Int) ∧ st < N := by
          have h := start_mod a2 N hN1 (by omega)
          exact ⟨(IntKind.u64.wrap a2 % (N : Int)).toNat, by omega, by omega⟩
        rw [hst] at hS6
        have HH6 : Hid (SnapHold W w6 p c v C L b g (sn0 t s 0 0 0 st N) []) := Hold.more HH.out hb6 (tSn_ok _ _ _ _) hS6 (fun q hq => by
          rcases hq with rfl | rfl
          · exact hbb
          · exact hbg)
        clear hS6 hb6 hbb hbg q0 q1 q2 q3 hst
        obtain ⟨q0, q1, q2, q3⟩ := HA.out.later HH6.out.below Hs.out
        go_wp2_with fail
        refine (snnew_any W.heap.size _ t s 0 0 (t - 1) a3 N N hlay rfl HH6.out.size).mono ?_
        rintro r w7 ⟨b2, g2, rfl, hS7, hb7, hbb, hbg⟩
        obtain ⟨st2, hst, hst3⟩ : ∃ st : Nat, IntKind.u64.wrap a3 % (N : Int) = (st : Int) ∧ st < N := by
          have h := start_mod a3 N hN1 (by omega)
          exact ⟨(IntKind.u64.wrap a3 % (N : Int)).toNat, by omega, by omega⟩
        rw [hst] at hS7
        have HH7 : Hid (SnapHold W w7 p c v C L b g (sn0 t s 0 0 0 st N) [tSn W.heap.size b2 g2 (sn0 t s 0 0 (t - 1) st2 N)]) := SnapHold.more HH6.out hb7 (tSn_ok _ _ _ _) hS7 (fun q hq => by
          rcases hq with rfl | rfl
          · exact hbb
          · exact hbg)
        have HNa := Lib.hid (Snap.start t s 0 0 0 C N st 0 hst2)
        have HNb := Lib.hid (Snap.start t s 0 0 (t - 1) C N st2 0 hst3)
        have HEa : Hid (SnSame (sn0 t s 0 0 0 st N) (sn0 t s 0 0 0 st N)) := ⟨rfl, rfl, rfl, rfl, rfl⟩
        have HEb : Hid (SnSame (sn0 t s 0 0 (t - 1) st2 N) (sn0 t s 0 0 (t - 1) st2 N)) := ⟨rfl, rfl, rfl, rfl, rfl⟩
        have HL7 : Hid (L.length ≤ e + 2 * 0) := HL.out
        clear hS7 hb7 hbb hbg q0 q1 q2 q3 hst HH6 HH HL HX
        obtain ⟨wo, rfl⟩ : ∃ wo : World, wo = wr := ⟨_, rfl⟩
        go_wp2_with fail
        go_loopw [16] (fun i wr => ∃ (m : Nat) (v : Value) (L : List Ev) (k k2 : Sn), m ≤ 2 * N ∧ i = .int .i64 m ∧ Hid (SnapHold W wr p c v C L b g k [tSn W.heap.size b2 g2 k2]) ∧ Hid (Snap k C N st m 0 (-1)) ∧ Hid (Snap k2 C N st2 m 0 (-1)) ∧ Hid (SnSame (sn0 t s 0 0 0 st N) k) ∧ Hid (SnSame (sn0 t s 0 0 (t - 1) st2 N) k2) ∧ Hid (L.length ≤ e + 2 * m)) (fun i _ => 2 * N - (intOf i).toNat)
        case atStart => exact ⟨0, _, _, _, _, by omega, rfl, HH7, HNa, HNb, HEa, HEb, HL7⟩
        case round =>
          clear HH7 HNa HNb HEa HEb HL7
          obtain ⟨m, v, L, k, k2, hm, rfl, HH, HNa, HNb, HEa, HEb, HL⟩ := hrel
          obtain ⟨q0, q1, q2, q3⟩ := HA.out.later HH.out.below Hs.out
          go_wp2_with fail
          refine (call_any t s 0 0 N _ hlay).mono ?_
          rintro r w8 ⟨rfl, hb8⟩
          replace HH := Lib.hid (HH.out.later hb8)
          clear hb8 q0 q1 q2 q3
          rcases Nat.lt_or_ge m (2 * N) with hmN | hmN
          · have hpa : k.ph = 0 := by
              rcases HNa.out.cases with ⟨h, _⟩ | ⟨_, P, h1, _, h2, _, _⟩
              · exact h
              · have := Nat.mul_le_mul_right N h2; omega
            have hpb : k2.ph = 0 := by
              rcases HNb.out.cases with ⟨h, _⟩ | ⟨_, P, h1, _, h2, _, _⟩
              · exact h
              · have := Nat.mul_le_mul_right N h2; omega
            have hoka := HNa.out.ok (t := t) (s := s) HEa.out rfl rfl hlay rfl (by have := HC.out; have := HM.out; omega) (by omega)
            have HOKB := Lib.hid (HNb.out.ok (t := t) (s := s) HEb.out rfl rfl hlay rfl (by have := HC.out; have := HM.out; omega) (by omega))
            have HST := Lib.hid (HH.out.call hoka (by have := HL.out; omega))
            have HNa2 := Lib.hid (HNa.out.step hpa)
            have HNb2 := Lib.hid (HNb.out.step hpb)
            have HEa2 := Lib.hid (HEa.out.trans (Snap.same C k))
            have HEb2 := Lib.hid (HEb.out.trans (Snap.same C k2))
            have hmN' : (m : Int) < 2 * (N : Int) := by omega
            clear hoka hpa hpb HNa HNb HEa HEb
            go_wp2_with fail
            refine HST.out.mono ?_
            rintro r w4 ⟨rfl, v4, hH4⟩
            have HH4 := Lib.hid hH4
            clear hH4
            go_wp2_with fail
            have HST2 := Lib.hid (HH4.out.call2 HOKB.out (by rw [List.length_append]; have := HL.out; have := Sn.ev_le k C; omega))
            refine HST2.out.mono ?_
            rintro r w9 ⟨rfl, v9, hH9⟩
            have HH9 := Lib.hid hH9
            clear hH9
            go_wp2_with fail
            go_roundw
            case rel => exact ⟨m + 1, v9, _, _, _, by omega, by go_num, HH9, HNa2, HNb2, HEa2, HEb2, by show _ ≤ _; rw [List.length_append, List.length_append]; have := HL.out; have := Sn.ev_le k C; have := Sn.ev_le k2 C; omega⟩
            case measure => simp [intOf]; omega
          · obtain rfl : m = 2 * N := by omega
            have hda : k.ph = 1 ∧ k.passes = 2 ∧ ∀ j, j < N → k.X.getD j 0 = C.getD j 0 := by
              rcases HNa.out.cases with ⟨_, h⟩ | ⟨h0, P, h1, h2, h3, h4, h5⟩
              · omega
              · have : P = 2 := by omega
                subst this
                exact ⟨h0, h2, h5 (by omega)⟩
            have hdb : k2.ph = 1 ∧ k2.passes = 2 ∧ ∀ j, j < N → k2.X.getD j 0 = C.getD j 0 := by
              rcases HNb.out.cases with ⟨_, h⟩ | ⟨h0, P, h1, h2, h3, h4, h5⟩
              · omega
              · have : P = 2 := by omega
                subst this
                exact ⟨h0, h2, h5 (by omega)⟩
            have HPA := Lib.hid hda
            have HPB := Lib.hid hdb
            have HKA := Lib.hid HNa.out.X
            have HKB := Lib.hid HNb.out.X
            have hmN' : ¬ (2 * (N : Int)) < 2 * (N : Int) := by omega
            clear hda hdb HNa HNb HEa HEb
            go_wp2_with fail
            refine (snwords_any W.heap.size _ b g k HPA.out.1 (by rw [HKA.out.2]; omega) HH.out.sn).mono ?_
            rintro r w10 ⟨ha, rfl, hoa, hb10⟩
            rw [HKA.out.2] at hoa ⊢
            have HH10 := Lib.hid (HH.out.later hb10)
            have HGA : Hid (∀ e, e < N → w10.cell? ⟨ha, e, none⟩ = some (.int .u64 (C.getD e 0))) := fun e he => by
              rw [← HPA.out.2.2 e he]
              exact row_at hoa he
            clear hoa hb10
            go_wp2_with fail
            refine (snwords_any W.heap.size _ b2 g2 k2 HPB.out.1 (by rw [HKB.out.2]; omega) HH10.out.sn2).mono ?_
            rintro r w11 ⟨hb, rfl, hob, hb11⟩
            rw [HKB.out.2] at hob ⊢
            have HH11 := Lib.hid (HH10.out.later hb11)
            have HG : Hid (∀ e, e < N → w11.cell? ⟨ha, e, none⟩ = some (.int .u64 (C.getD e 0)) ∧ w11.cell? ⟨hb, e, none⟩ = some (.int .u64 (C.getD e 0))) := fun e he => by
              refine ⟨(hb11.cell (p := ⟨ha, e, none⟩) (World.block_lt_of_cell? w10 _ (HGA.out e he))).trans (HGA.out e he), ?_⟩
              rw [← HPB.out.2.2 e he]
              exact row_at hob he
            clear hob hb11 HGA HH HH10
            go_wp2_with fail
            refine (snphase_any W.heap.size _ b g k HH11.out.sn).mono ?_
            rintro r w' ⟨rfl, rfl⟩
            rw [HPA.out.1]
            go_wp2_with fail
            refine (snphase_any W.heap.size _ b2 g2 k2 HH11.out.sn2).mono ?_
            rintro r w' ⟨rfl, rfl⟩
            rw [HPB.out.1]
            obtain ⟨q0, q1, q2, q3⟩ := HA.out.later HH11.out.below Hs.out
            go_wp2_with fail
            refine (call_any t s 0 0 N _ hlay).mono ?_
            rintro r w12 ⟨rfl, hb12⟩
            clear q0 q1 q2 q3
            have HB12 := Lib.hid hb12
            obtain ⟨q0, q1, q2, q3⟩ := HA.out.later (HH11.out.later hb12).below Hs.out
            clear hb12
            go_wp2_with fail
            refine (call_any t s 0 0 N _ hlay).mono ?_
            rintro r w13 ⟨rfl, hb13⟩
            have HB13 := Lib.hid (below_step HB12.out hb13)
            clear hb13 q0 q1 q2 q3
            obtain ⟨wo, rfl⟩ : ∃ wo : World, wo = wr := ⟨_, rfl⟩
            go_wp2_with fail
            go_loopw [102] (fun j wr => ∃ e : Nat, e ≤ N ∧ j = .int .i64 e ∧ Hid (Below w11.heap.size w11 wr)) (fun j _ => N - (intOf j).toNat)
            case atStart => exact ⟨0, by omega, rfl, HB13⟩
            case round =>
              clear HB13
              obtain ⟨e, he, rfl, HB5⟩ := hrel
              rcases Nat.lt_or_ge e N with heN | heN
              · obtain ⟨g1, g2⟩ := HG.out e heN
                replace g1 := (HB5.out.cell (p := ⟨ha, e, none⟩) (World.block_lt_of_cell? w11 _ g1)).trans g1
                replace g2 := (HB5.out.cell (p := ⟨hb, e, none⟩) (World.block_lt_of_cell? w11 _ g2)).trans g2
                have HPK : Hid (C[e]? = some (C.getD e 0)) := getD_at (by have := HC.out; have := HM.out; omega)
                generalize C.getD e 0 = x at g1 g2 HPK
                have HMW := Lib.hid (HH11.out.later HB5.out).mem
                obtain ⟨q0, q1, q2, q3⟩ := HA.out.later (HH11.out.later HB5.out).below Hs.out
                have heN' : (e : Int) < (N : Int) := by omega
                go_wp2_with fail
                refine wp_region_seq ((0, true) :: (1, true) :: (2, true) :: (3, true) :: (4, true) :: (5, true) :: (6, true) :: (7, false) :: (8, false) :: (9, true) :: (10, true) :: (11, true) :: (12, true) :: (13, true) :: (14, true) :: (15, true) :: (16, true) :: (17, true) :: (18, true) :: (19, true) :: (20, true) :: []) (by kernel_rfl) (by kernel_rfl) (by kernel_rfl) (by decide) (fun _ _ _ _ _ h => h) (fun hHeld => ?_)
                repeat (first
                  | (refine seq_take (v := ?_) rfl ?_ ?_ ?_; rotate_left 1; rfl; (focus (intro wS hSw; have hk := below_rule hSw; go_simp; first | done | with_reducible rfl)); (try simp only [Act.put, List.setIfInBounds_toArray, List.set_cons_zero, List.set_cons_succ]))
                  | (refine seq_skip rfl ?_ ?_; rfl; (try simp only [Act.put, List.setIfInBounds_toArray, List.set_cons_zero, List.set_cons_succ]))
                  | (refine seq_run rfl (fun K hK => ?_); go_simp; (try (first | (go_at_call 20; refine (cword_any _ _ _ _ _ _).mono ?_; rintro e w' ⟨rfl, hb'⟩) | (go_at_call 19; refine (quiet_below (peek_in W.heap.size _ p c v C L e x (HMW.out.later hHeld) HPK.out)).mono ?_; rintro e w' ⟨rfl, hb'⟩))); (try go_wp2_with fail); refine hK.out _ _ ?_ ?_; (focus (first | exact below_step hHeld hb' | exact below_new hHeld _ | exact hHeld)); (try clear hb'); clear hHeld hK K; intro hHeld; (try simp only [Act.put, List.setIfInBounds_toArray, List.set_cons_zero, List.set_cons_succ])))
                first | refine seq_done ?_ | skip
                have HB6 := Lib.hid (below_step HB5.out hHeld)
                clear q0 q1 q2 q3
                go_wp2_with fail
                go_roundw
                case rel => exact ⟨e + 1, by omega, by go_num, HB6⟩
                case measure => simp [intOf]; omega
              · have heN' : ¬ (e : Int) < (N : Int) := by omega
                have HHf := Lib.hid (HH11.out.later HB5.out)
                go_wp2_with fail
                refine (snpasses_any W.heap.size _ b g k HHf.out.sn).mono ?_
                rintro r w' ⟨rfl, rfl⟩
                rw [HPA.out.2.1]
                go_wp2_with fail
                refine (snpasses_any W.heap.size _ b2 g2 k2 HHf.out.sn2).mono ?_
                rintro r w' ⟨rfl, rfl⟩
                rw [HPB.out.2.1]
                have hbf := Lib.hid (below_step' HB.out HHf.out.below HB.out.size)
                clear HHf HB5
                go_wp2
                go_ret
                exact ⟨rfl, hbf.out⟩
    · have heN' : ¬ (e : Int) < (N : Int) := by omega
      obtain ⟨q0, q1, q2, q3⟩ := HA.out.later HH.out.below Hs.out
      go_wp2_with fail
      refine (snnew_any W.heap.size _ t s 0 0 0 a2 N N hlay rfl HH.out.size).mono ?_
      rintro r w6 ⟨b, g, rfl, hS6, hb6, hbb, hbg⟩
      obtain ⟨st, hst, hst2⟩ : ∃ st : Nat, IntKind.u64.wrap a2 % (N : Int) = (st : Int) ∧ st < N := by
        have h := start_mod a2 N hN1 (by omega)
        exact ⟨(IntKind.u64.wrap a2 % (N : Int)).toNat, by omega, by omega⟩
      rw [hst] at hS6
      have HH6 : Hid (SnapHold W w6 p c v C L b g (sn0 t s 0 0 0 st N) []) := Hold.more HH.out hb6 (tSn_ok _ _ _ _) hS6 (fun q hq => by
        rcases hq with rfl | rfl
        · exact hbb
        · exact hbg)
      clear hS6 hb6 hbb hbg q0 q1 q2 q3 hst
      obtain ⟨q0, q1, q2, q3⟩ := HA.out.later HH6.out.below Hs.out
      go_wp2_with fail
      refine (snnew_any W.heap.size _ t s 0 0 (t - 1) a3 N N hlay rfl HH6.out.size).mono ?_
      rintro r w7 ⟨b2, g2, rfl, hS7, hb7, hbb, hbg⟩
      obtain ⟨st2, hst, hst3⟩ : ∃ st : Nat, IntKind.u64.wrap a3 % (N : Int) = (st : Int) ∧ st < N := by
        have h := start_mod a3 N hN1 (by omega)
        exact ⟨(IntKind.u64.wrap a3 % (N : Int)).toNat, by omega, by omega⟩
      rw [hst] at hS7
      have HH7 : Hid (SnapHold W w7 p c v C L b g (sn0 t s 0 0 0 st N) [tSn W.heap.size b2 g2 (sn0 t s 0 0 (t - 1) st2 N)]) := SnapHold.more HH6.out hb7 (tSn_ok _ _ _ _) hS7 (fun q hq => by
        rcases hq with rfl | rfl
        · exact hbb
        · exact hbg)
      have HNa := Lib.hid (Snap.start t s 0 0 0 C N st 0 hst2)
      have HNb := Lib.hid (Snap.start t s 0 0 (t - 1) C N st2 0 hst3)
      have HEa : Hid (SnSame (sn0 t s 0 0 0 st N) (sn0 t s 0 0 0 st N)) := ⟨rfl, rfl, rfl, rfl, rfl⟩
      have HEb : Hid (SnSame (sn0 t s 0 0 (t - 1) st2 N) (sn0 t s 0 0 (t - 1) st2 N)) := ⟨rfl, rfl, rfl, rfl, rfl⟩
      have HL7 : Hid (L.length ≤ e + 2 * 0) := HL.out
      clear hS7 hb7 hbb hbg q0 q1 q2 q3 hst HH6 HH HL HX
      obtain ⟨wo, rfl⟩ : ∃ wo : World, wo = wr := ⟨_, rfl⟩
      go_wp2_with fail
      go_loopw [16] (fun i wr => ∃ (m : Nat) (v : Value) (L : List Ev) (k k2 : Sn), m ≤ 2 * N ∧ i = .int .i64 m ∧ Hid (SnapHold W wr p c v C L b g k [tSn W.heap.size b2 g2 k2]) ∧ Hid (Snap k C N st m 0 (-1)) ∧ Hid (Snap k2 C N st2 m 0 (-1)) ∧ Hid (SnSame (sn0 t s 0 0 0 st N) k) ∧ Hid (SnSame (sn0 t s 0 0 (t - 1) st2 N) k2) ∧ Hid (L.length ≤ e + 2 * m)) (fun i _ => 2 * N - (intOf i).toNat)
      case atStart => exact ⟨0, _, _, _, _, by omega, rfl, HH7, HNa, HNb, HEa, HEb, HL7⟩
      case round =>
        clear HH7 HNa HNb HEa HEb HL7
        obtain ⟨m, v, L, k, k2, hm, rfl, HH, HNa, HNb, HEa, HEb, HL⟩ := hrel
        obtain ⟨q0, q1, q2, q3⟩ := HA.out.later HH.out.below Hs.out
        go_wp2_with fail
        refine (call_any t s 0 0 N _ hlay).mono ?_
        rintro r w8 ⟨rfl, hb8⟩
        replace HH := Lib.hid (HH.out.later hb8)
        clear hb8 q0 q1 q2 q3
        rcases Nat.lt_or_ge m (2 * N) with hmN | hmN
        · have hpa : k.ph = 0 := by
            rcases HNa.out.cases with ⟨h, _⟩ | ⟨_, P, h1, _, h2, _, _⟩
            · exact h
            · have := Nat.mul_le_mul_right N h2; omega
          have hpb : k2.ph = 0 := by
            rcases HNb.out.cases with ⟨h, _⟩ | ⟨_, P, h1, _, h2, _, _⟩
            · exact h
            · have := Nat.mul_le_mul_right N h2; omega
          have hoka := HNa.out.ok (t := t) (s := s) HEa.out rfl rfl hlay rfl (by have := HC.out; have := HM.out; omega) (by omega)
          have HOKB := Lib.hid (HNb.out.ok (t := t) (s := s) HEb.out rfl rfl hlay rfl (by have := HC.out; have := HM.out; omega) (by omega))
          have HST := Lib.hid (HH.out.call hoka (by have := HL.out; omega))
          have HNa2 := Lib.hid (HNa.out.step hpa)
          have HNb2 := Lib.hid (HNb.out.step hpb)
          have HEa2 := Lib.hid (HEa.out.trans (Snap.same C k))
          have HEb2 := Lib.hid (HEb.out.trans (Snap.same C k2))
          have hmN' : (m : Int) < 2 * (N : Int) := by omega
          clear hoka hpa hpb HNa HNb HEa HEb
          go_wp2_with fail
          refine HST.out.mono ?_
          rintro r w4 ⟨rfl, v4, hH4⟩
          have HH4 := Lib.hid hH4
          clear hH4
          go_wp2_with fail
          have HST2 := Lib.hid (HH4.out.call2 HOKB.out (by rw [List.length_append]; have := HL.out; have := Sn.ev_le k C; omega))
          refine HST2.out.mono ?_
          rintro r w9 ⟨rfl, v9, hH9⟩
          have HH9 := Lib.hid hH9
          clear hH9
          go_wp2_with fail
          go_roundw
          case rel => exact ⟨m + 1, v9, _, _, _, by omega, by go_num, HH9, HNa2, HNb2, HEa2, HEb2, by show _ ≤ _; rw [List.length_append, List.length_append]; have := HL.out; have := Sn.ev_le k C; have := Sn.ev_le k2 C; omega⟩
          case measure => simp [intOf]; omega
        · obtain rfl : m = 2 * N := by omega
          have hda : k.ph = 1 ∧ k.passes = 2 ∧ ∀ j, j < N → k.X.getD j 0 = C.getD j 0 := by
            rcases HNa.out.cases with ⟨_, h⟩ | ⟨h0, P, h1, h2, h3, h4, h5⟩
            · omega
            · have : P = 2 := by omega
              subst this
              exact ⟨h0, h2, h5 (by omega)⟩
          have hdb : k2.ph = 1 ∧ k2.passes = 2 ∧ ∀ j, j < N → k2.X.getD j 0 = C.getD j 0 := by
            rcases HNb.out.cases with ⟨_, h⟩ | ⟨h0, P, h1, h2, h3, h4, h5⟩
            · omega
            · have : P = 2 := by omega
              subst this
              exact ⟨h0, h2, h5 (by omega)⟩
          have HPA := Lib.hid hda
          have HPB := Lib.hid hdb
          have HKA := Lib.hid HNa.out.X
          have HKB := Lib.hid HNb.out.X
          have hmN' : ¬ (2 * (N : Int)) < 2 * (N : Int) := by omega
          clear hda hdb HNa HNb HEa HEb
          go_wp2_with fail
          refine (snwords_any W.heap.size _ b g k HPA.out.1 (by rw [HKA.out.2]; omega) HH.out.sn).mono ?_
          rintro r w10 ⟨ha, rfl, hoa, hb10⟩
          rw [HKA.out.2] at hoa ⊢
          have HH10 := Lib.hid (HH.out.later hb10)
          have HGA : Hid (∀ e, e < N → w10.cell? ⟨ha, e, none⟩ = some (.int .u64 (C.getD e 0))) := fun e he => by
            rw [← HPA.out.2.2 e he]
            exact row_at hoa he
          clear hoa hb10
          go_wp2_with fail
          refine (snwords_any W.heap.size _ b2 g2 k2 HPB.out.1 (by rw [HKB.out.2]; omega) HH10.out.sn2).mono ?_
          rintro r w11 ⟨hb, rfl, hob, hb11⟩
          rw [HKB.out.2] at hob ⊢
          have HH11 := Lib.hid (HH10.out.later hb11)
          have HG : Hid (∀ e, e < N → w11.cell? ⟨ha, e, none⟩ = some (.int .u64 (C.getD e 0)) ∧ w11.cell? ⟨hb, e, none⟩ = some (.int .u64 (C.getD e 0))) := fun e he => by
            refine ⟨(hb11.cell (p := ⟨ha, e, none⟩) (World.block_lt_of_cell? w10 _ (HGA.out e he))).trans (HGA.out e he), ?_⟩
            rw [← HPB.out.2.2 e he]
            exact row_at hob he
          clear hob hb11 HGA HH HH10
          go_wp2_with fail
          refine (snphase_any W.heap.size _ b g k HH11.out.sn).mono ?_
          rintro r w' ⟨rfl, rfl⟩
          rw [HPA.out.1]
          go_wp2_with fail
          refine (snphase_any W.heap.size _ b2 g2 k2 HH11.out.sn2).mono ?_
          rintro r w' ⟨rfl, rfl⟩
          rw [HPB.out.1]
          obtain ⟨q0, q1, q2, q3⟩ := HA.out.later HH11.out.below Hs.out
          go_wp2_with fail
          refine (call_any t s 0 0 N _ hlay).mono ?_
          rintro r w12 ⟨rfl, hb12⟩
          clear q0 q1 q2 q3
          have HB12 := Lib.hid hb12
          obtain ⟨q0, q1, q2, q3⟩ := HA.out.later (HH11.out.later hb12).below Hs.out
          clear hb12
          go_wp2_with fail
          refine (call_any t s 0 0 N _ hlay).mono ?_
          rintro r w13 ⟨rfl, hb13⟩
          have HB13 := Lib.hid (below_step HB12.out hb13)
          clear hb13 q0 q1 q2 q3
          obtain ⟨wo, rfl⟩ : ∃ wo : World, wo = wr := ⟨_, rfl⟩
          go_wp2_with fail
          go_loopw [102] (fun j wr => ∃ e : Nat, e ≤ N ∧ j = .int .i64 e ∧ Hid (Below w11.heap.size w11 wr)) (fun j _ => N - (intOf j).toNat)
          case atStart => exact ⟨0, by omega, rfl, HB13⟩
          case round =>
            clear HB13
            obtain ⟨e, he, rfl, HB5⟩ := hrel
            rcases Nat.lt_or_ge e N with heN | heN
            · obtain ⟨g1, g2⟩ := HG.out e heN
              replace g1 := (HB5.out.cell (p := ⟨ha, e, none⟩) (World.block_lt_of_cell? w11 _ g1)).trans g1
              replace g2 := (HB5.out.cell (p := ⟨hb, e, none⟩) (World.block_lt_of_cell? w11 _ g2)).trans g2
              have HPK : Hid (C[e]? = some (C.getD e 0)) := getD_at (by have := HC.out; have := HM.out; omega)
              generalize C.getD e 0 = x at g1 g2 HPK
              have HMW := Lib.hid (HH11.out.later HB5.out).mem
              obtain ⟨q0, q1, q2, q3⟩ := HA.out.later (HH11.out.later HB5.out).below Hs.out
              have heN' : (e : Int) < (N : Int) := by omega
              go_wp2_with fail
              refine wp_region_seq ((0, true) :: (1, true) :: (2, true) :: (3, true) :: (4, true) :: (5, true) :: (6, true) :: (7, false) :: (8, false) :: (9, true) :: (10, true) :: (11, true) :: (12, true) :: (13, true) :: (14, true) :: (15, true) :: (16, true) :: (17, true) :: (18, true) :: (19, true) :: (20, true) :: []) (by kernel_rfl) (by kernel_rfl) (by kernel_rfl) (by decide) (fun _ _ _ _ _ h => h) (fun hHeld => ?_)
              repeat (first
                | (refine seq_take (v := ?_) rfl ?_ ?_ ?_; rotate_left 1; rfl; (focus (intro wS hSw; have hk := below_rule hSw; go_simp; first | done | with_reducible rfl)); (try simp only [Act.put, List.setIfInBounds_toArray, List.set_cons_zero, List.set_cons_succ]))
                | (refine seq_skip rfl ?_ ?_; rfl; (try simp only [Act.put, List.setIfInBounds_toArray, List.set_cons_zero, List.set_cons_succ]))
                | (refine seq_run rfl (fun K hK => ?_); go_simp; (try (first | (go_at_call 20; refine (cword_any _ _ _ _ _ _).mono ?_; rintro e w' ⟨rfl, hb'⟩) | (go_at_call 19; refine (quiet_below (peek_in W.heap.size _ p c v C L e x (HMW.out.later hHeld) HPK.out)).mono ?_; rintro e w' ⟨rfl, hb'⟩))); (try go_wp2_with fail); refine hK.out _ _ ?_ ?_; (focus (first | exact below_step hHeld hb' | exact below_new hHeld _ | exact hHeld)); (try clear hb'); clear hHeld hK K; intro hHeld; (try simp only [Act.put, List.setIfInBounds_toArray, List.set_cons_zero, List.set_cons_succ])))
              first | refine seq_done ?_ | skip
              have HB6 := Lib.hid (below_step HB5.out hHeld)
              clear q0 q1 q2 q3
              go_wp2_with fail
              go_roundw
              case rel => exact ⟨e + 1, by omega, by go_num, HB6⟩
              case measure => simp [intOf]; omega
            · have heN' : ¬ (e : Int) < (N : Int) := by omega
              have HHf := Lib.hid (HH11.out.later HB5.out)
              go_wp2_with fail
              refine (snpasses_any W.heap.size _ b g k HHf.out.sn).mono ?_
              rintro r w' ⟨rfl, rfl⟩
              rw [HPA.out.2.1]
              go_wp2_with fail
              refine (snpasses_any W.heap.size _ b2 g2 k2 HHf.out.sn2).mono ?_
              rintro r w' ⟨rfl, rfl⟩
              rw [HPB.out.2.1]
              have hbf := Lib.hid (below_step' HB.out HHf.out.below HB.out.size)
              clear HHf HB5
              go_wp2
              go_ret
              exact ⟨rfl, hbf.out⟩

end Go.Proofs.Ytgpdoihgnpkanaa
