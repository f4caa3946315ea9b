/-
  The contract of hist's Most: how many calls of a list are under way at one time. No condition but that the list is no longer than 100000.
-/
import Derived.Test.YtkadjpllappalaaGreatHistCalls
import Derived.Test.YtkadjpllappalaaGreatMostPure
import Derived.Test.YtkadjpllappalaaGreatKeysCalls
namespace Go.Proofs.YtkadjpllappalaaGreat
open Go.RowKit Go.Maps
set_option linter.unusedVariables false

theorem mty_ii : MapTy Tryz.prog 60 3 3 .i64 := ⟨Tryz.underlying60, Tryz.underlying3, Tryz.underlying3, Tryz.zeroValue3⟩
theorem wf_i64 {a : Int} (h0 : -9223372036854775808 ≤ a) (h1 : a ≤ 9223372036854775807) : (Lit.int .i64 a).wf = true := WalkArith.wf_i64 (by omega)
theorem i64_wf {a : Int} (h : (Lit.int .i64 a).wf = true) : -9223372036854775808 ≤ a ∧ a ≤ 9223372036854775807 := bounds_i64 h

section
variable {l : List Dd} {i : Nat} {d : Dd}
/-- What is laid at the call's beginning and at its end. -/
theorem add_two (hd : l[i]? = some d) (hc : dCut d = true) {x y : Int} (hx : dAdds (l.take i) d.fr = x) (hy : putF (dAdds (l.take i)) d.fr (x + 1) (dEnd d) = y) (k : Int) : putF (putF (dAdds (l.take i)) d.fr (x + 1)) (dEnd d) (y - 1) k = dAdds (l.take (i + 1)) k := by
  rw [dAdds_snoc hd]
  unfold dAdd
  rw [hc]
  simp only [true_and]
  unfold putF at hy ⊢
  subst hx hy
  by_cases e1 : k = dEnd d <;> by_cases e2 : k = d.fr
  · subst e1
    rw [if_pos rfl, if_pos e2, if_pos e2, if_pos rfl, ← e2]
    omega
  · subst e1
    rw [if_pos rfl, if_neg e2, if_neg e2, if_pos rfl]
    omega
  · subst e2
    rw [if_neg e1, if_pos rfl, if_pos rfl, if_neg e1]
    omega
  · rw [if_neg e1, if_neg e2, if_neg e2, if_neg e1]
    omega
theorem key_two (hd : l[i]? = some d) (hc : dCut d = true) (k : Int) : putM (putM (dKey (l.take i)) d.fr) (dEnd d) k = dKey (l.take (i + 1)) k := by
  rw [dKey_snoc hd, hc]
  unfold putM
  cases dKey (l.take i) k <;> cases decide (k = d.fr) <;> cases decide (k = dEnd d) <;> rfl
theorem add_one (hd : l[i]? = some d) (hc : dCut d = false) {x : Int} (hx : dAdds (l.take i) d.fr = x) (k : Int) : putF (dAdds (l.take i)) d.fr (x + 1) k = dAdds (l.take (i + 1)) k := by
  rw [dAdds_snoc hd]
  unfold dAdd
  rw [hc]
  unfold putF
  subst hx
  by_cases e2 : k = d.fr
  · subst e2
    rw [if_pos rfl, if_pos rfl, if_neg (fun h => Bool.false_ne_true h.1)]
    omega
  · rw [if_neg e2, if_neg e2, if_neg (fun h => Bool.false_ne_true h.1)]
    omega
theorem key_one (hd : l[i]? = some d) (hc : dCut d = false) (k : Int) : putM (dKey (l.take i)) d.fr k = dKey (l.take (i + 1)) k := by
  rw [dKey_snoc hd, hc]
  unfold putM
  cases dKey (l.take i) k <;> cases decide (k = d.fr) <;> rfl
end

set_option maxRecDepth 100000 in
set_option maxHeartbeats 4000000 in
theorem hmost_any (w : World) (a0 : Option Addr) (len cap tb off : Nat) (l : List Dd) (h : IsDds w a0 len cap tb off l) (hn : len ≤ 100000) :
    Calls Tryz.prog 9 #[.slice a0 len cap] w fun e w' => e = .returned (.int .i64 (dMost l l.length)) ∧ Below w.heap.size w w' := by
  have HL := Lib.hid h
  clear h
  have hmm := @run_makeMap Tryz.prog
  go_enter Tryz.func9, Tryz.ntmps9
  go_wp2_with fail
  have HM0 : Hid (IMap Tryz.prog 3 3 .i64 (w.alloc (.map #[] 0)) w.heap.size (2 * 0) (dAdds (l.take 0)) (dKey (l.take 0))) := (IMap.made w _ _ _ _).as (fun k => rfl) (fun k => rfl)
  have HB0 : Hid (Below w.heap.size w (w.alloc (.map #[] 0))) := below_new (Below.refl _ _) _
  go_loopw [13] (fun iw wr => ∃ i : Nat, i ≤ len ∧ iw = .int .i64 i ∧ Hid (Below w.heap.size w wr) ∧ Hid (IMap Tryz.prog 3 3 .i64 wr w.heap.size (2 * i) (dAdds (l.take i)) (dKey (l.take i)))) (fun iw _ => len - (intOf iw).toNat)
  case atStart => exact ⟨0, Nat.zero_le _, rfl, HB0, HM0⟩
  case round =>
    clear HM0 HB0
    obtain ⟨i, hi, rfl, HB, HM⟩ := hrel
    rcases Nat.lt_or_ge i len with hil | hil
    · have hil' : (i : Int) < (len : Int) := by omega
      obtain ⟨d, hd⟩ : ∃ d, l[i]? = some d := ⟨_, List.getElem?_eq_getElem (by rw [HL.out.1]; exact hil)⟩
      obtain ⟨rfl, htb⟩ := HL.out.2.2.1 (by omega)
      obtain ⟨hA, hF⟩ := (HL.out.later HB.out (fun _ => htb)).2.2.2 i d hd
      have hcap := HL.out.2.1
      have hne : wr.heap.size ≠ w.heap.size := by have := HM.out.lt; omega
      have hsz : w.heap.size ≤ wr.heap.size := HB.out.size
      have b0 := dAdds_bound d.fr (l.take i)
      obtain ⟨x, hx⟩ : ∃ x, dAdds (l.take i) d.fr = x := ⟨_, rfl⟩
      have b2 := dAdds_bound (dEnd d) (l.take i)
      obtain ⟨y, hy⟩ : ∃ y, putF (dAdds (l.take i)) d.fr (x + 1) (dEnd d) = y := ⟨_, rfl⟩
      rw [hx] at b0
      rw [List.length_take] at b0 b2
      have b1 : -100000 ≤ x ∧ x ≤ 100000 := by omega
      have b3 : -100000 ≤ y ∧ y ≤ 100001 := by
        unfold putF at hy
        split at hy <;> omega
      clear b0 b2
      obtain ⟨c0, c1, c2, c3, c4, c5, c6, c7, c8, c9, c10⟩ := hA
      have f0 := hF.f0
      have f1 := hF.f1
      have t0 := hF.t0
      have t1 := hF.t1
      have HX := Lib.hid hx
      have HY := Lib.hid hy
      have HD := Lib.hid hd
      clear hx hy hd hF
      by_cases hov : 0 ≤ d.till
      case neg =>
        have hc : dCut d = false := decide_eq_false (fun hh => hov hh.1)
        have p1 : decide (0 ≤ d.till) = false := decide_eq_false hov
        have HC := Lib.hid hc
        clear hc
        go_wp2_with (first
          | (at_lookup; refine list_im_look rfl _ _ _ rfl mty_ii rfl (HM.out.later (below_new (Below.refl _ _) _)) _ x rfl (wf_i64 f0 f1) HX.out ?_)
          | (at_mapUpdate; refine list_im_put rfl _ _ _ _ rfl mty_ii rfl (HM.out.later (below_new (Below.refl _ _) _)) (by unfold maxLen; omega) _ (x + 1) rfl rfl (wf_i64 f0 f1) (wf_i64 (by omega) (by omega)) ?_; intro w2 hM2 hG2; obtain ⟨g0, g1, g2, g3, g4, g5, g6, g7, g8, g9, g10⟩ := (AtBd.made wr d 46).kept hG2 (fun hh => hne (Option.some.inj hh)))
          | fail)
        refine (over_any _ d).mono ?_
        rintro e w3 ⟨rfl, hb3⟩
        have HM3 := Lib.hid (hM2.later hb3)
        have hB2 : Below w.heap.size w w2 := ((below_new HB.out (d.obj 46)).grown hG2 (by simp; omega) (fun k hk => by cases hk; exact Nat.le_refl _))
        have HB3 := Lib.hid (below_step hB2 hb3)
        obtain ⟨g0, g1, g2, g3, g4, g5, g6, g7, g8, g9, g10⟩ := AtBd.later ⟨g0, g1, g2, g3, g4, g5, g6, g7, g8, g9, g10⟩ hb3
        clear hM2 hb3 hG2 hB2 c0 c1 c2 c3 c4 c5 c6 c7 c8 c9 c10 HM HB
        go_wp2_with fail
        go_roundw
        case rel => exact ⟨i + 1, by omega, by go_num, HB3, (HM3.out.as (add_one HD.out HC.out HX.out) (key_one HD.out HC.out)).mono (by omega)⟩
        case measure => first | omega | (simp [intOf]; done) | (simp [intOf]; omega)
      have p1 : decide (0 ≤ d.till) = true := decide_eq_true hov
      by_cases hmx : d.till < 9223372036854775807
      case neg =>
        have hc : dCut d = false := decide_eq_false (fun hh => hmx hh.2)
        have HC := Lib.hid hc
        clear hc
        go_wp2_with (first
          | (at_lookup; refine list_im_look rfl _ _ _ rfl mty_ii rfl (HM.out.later (below_new (Below.refl _ _) _)) _ x rfl (wf_i64 f0 f1) HX.out ?_)
          | (at_mapUpdate; refine list_im_put rfl _ _ _ _ rfl mty_ii rfl (HM.out.later (below_new (Below.refl _ _) _)) (by unfold maxLen; omega) _ (x + 1) rfl rfl (wf_i64 f0 f1) (wf_i64 (by omega) (by omega)) ?_; intro w2 hM2 hG2; obtain ⟨g0, g1, g2, g3, g4, g5, g6, g7, g8, g9, g10⟩ := (AtBd.made wr d 46).kept hG2 (fun hh => hne (Option.some.inj hh)))
          | fail)
        refine (over_any _ d).mono ?_
        rintro e w3 ⟨rfl, hb3⟩
        have HM3 := Lib.hid (hM2.later hb3)
        have hB2 : Below w.heap.size w w2 := ((below_new HB.out (d.obj 46)).grown hG2 (by simp; omega) (fun k hk => by cases hk; exact Nat.le_refl _))
        have HB3 := Lib.hid (below_step hB2 hb3)
        obtain ⟨g0, g1, g2, g3, g4, g5, g6, g7, g8, g9, g10⟩ := AtBd.later ⟨g0, g1, g2, g3, g4, g5, g6, g7, g8, g9, g10⟩ hb3
        clear hM2 hb3 hG2 hB2 c0 c1 c2 c3 c4 c5 c6 c7 c8 c9 c10 HM HB
        go_wp2_with fail
        go_roundw
        case rel => exact ⟨i + 1, by omega, by go_num, HB3, (HM3.out.as (add_one HD.out HC.out HX.out) (key_one HD.out HC.out)).mono (by omega)⟩
        case measure => first | omega | (simp [intOf]; done) | (simp [intOf]; omega)
      case pos =>
        have hc : dCut d = true := decide_eq_true ⟨hov, hmx⟩
        have HC := Lib.hid hc
        clear hc
        go_wp2_with (first
          | (at_lookup; refine list_im_look rfl _ _ _ rfl mty_ii rfl (HM.out.later (below_new (Below.refl _ _) _)) _ x rfl (wf_i64 f0 f1) HX.out ?_)
          | (at_mapUpdate; refine list_im_put rfl _ _ _ _ rfl mty_ii rfl (HM.out.later (below_new (Below.refl _ _) _)) (by unfold maxLen; omega) _ (x + 1) rfl rfl (wf_i64 f0 f1) (wf_i64 (by omega) (by omega)) ?_; intro w2 hM2 hG2; obtain ⟨g0, g1, g2, g3, g4, g5, g6, g7, g8, g9, g10⟩ := (AtBd.made wr d 46).kept hG2 (fun hh => hne (Option.some.inj hh)))
          | fail)
        refine (over_any _ d).mono ?_
        rintro e w3 ⟨rfl, hb3⟩
        have HM3 := Lib.hid (hM2.later hb3)
        have hB2 : Below w.heap.size w w2 := ((below_new HB.out (d.obj 46)).grown hG2 (by simp; omega) (fun k hk => by cases hk; exact Nat.le_refl _))
        have HB3 := Lib.hid (below_step hB2 hb3)
        obtain ⟨g0, g1, g2, g3, g4, g5, g6, g7, g8, g9, g10⟩ := AtBd.later ⟨g0, g1, g2, g3, g4, g5, g6, g7, g8, g9, g10⟩ hb3
        clear hM2 hb3 hG2 hB2 c0 c1 c2 c3 c4 c5 c6 c7 c8 c9 c10 HM HB
        have ez : max d.fr (d.till + 1) = dEnd d := rfl
        have e0 : -9223372036854775808 ≤ dEnd d ∧ dEnd d ≤ 9223372036854775807 := by unfold dEnd; omega
        go_wp2_with (first
          | (at_lookup; refine list_im_look rfl _ _ _ rfl mty_ii rfl HM3.out (dEnd d) y (by first | rfl | (rw [← ez]; rfl)) (wf_i64 e0.1 e0.2) HY.out ?_)
          | (at_mapUpdate; refine list_im_put rfl _ _ _ _ rfl mty_ii rfl HM3.out (by unfold maxLen; omega) (dEnd d) (y - 1) (by first | rfl | (rw [← ez]; rfl)) rfl (wf_i64 e0.1 e0.2) (wf_i64 (by omega) (by omega)) ?_; intro w4 hM4 hG4)
          | fail)
        have hB4 : Below w.heap.size w w4 := HB3.out.grown hG4 HB3.out.size (fun k hk => by cases hk; exact Nat.le_refl _)
        go_roundw
        case rel => exact ⟨i + 1, by omega, by go_num, hB4, (hM4.as (add_two HD.out HC.out HX.out HY.out) (key_two HD.out HC.out)).mono (by omega)⟩
        case measure => first | omega | (simp [intOf]; done) | (simp [intOf]; omega)
    · obtain rfl : i = len := by omega
      have hnl : ¬ (i : Int) < (i : Int) := by omega
      have hll : l.length = i := HL.out.1
      have hM : IMap Tryz.prog 3 3 .i64 wr w.heap.size (2 * i) (dAdds l) (dKey l) := by
        have h := HM.out
        rw [List.take_of_length_le (by omega)] at h
        exact h
      have HM2 := Lib.hid hM
      have hfit : ∀ d ∈ l, d.Fit := fun d hd => by
        obtain ⟨j, hj⟩ := List.mem_iff_getElem?.1 hd
        exact (HL.out.2.2.2 j d hj).2
      have HF := Lib.hid hfit
      clear HM hM hfit hil
      go_wp2_with fail
      refine (keys_any _ _).mono ?_
      rintro e w3 ⟨rfl, rfl⟩
      go_wp2_with fail
      refine (sorted_any wr _ _ _ _ HM2.out (by omega)).mono ?_
      rintro e w4 ⟨v, ss, rfl, s1, s2, s3, s4, hrow, hb⟩
      obtain ⟨A, cap', rfl⟩ := own_shape hrow
      have HB4 := Lib.hid (below_step HB.out hb)
      have HM4 := Lib.hid (HM2.out.later hb)
      have HR := Lib.hid hrow
      have HS := Lib.hid s1
      have HS2 := Lib.hid s2
      have HS3 := Lib.hid s3
      have hmem : ∀ d ∈ l, d.fr ∈ ss ∧ (dCut d = true → dEnd d ∈ ss) := fun d hd => by
        have hf := HF.out d hd
        have q1 := hf.f0
        have q2 := hf.f1
        have q3 := hf.t1
        refine ⟨(s2 _ (wf_i64 q1 q2)).2 (List.any_eq_true.2 ⟨d, hd, by simp⟩), fun hc => ?_⟩
        have hc' := of_decide_eq_true hc
        refine (s2 _ (wf_i64 (by unfold dEnd; omega) (by unfold dEnd; omega))).2 (List.any_eq_true.2 ⟨d, hd, by simp [hc]⟩)
      have hnext : ∀ (k : Nat) (m : Int), ss[k]? = some m → (nowAt l ss k : Int) + dAdds l m = nowAt l ss (k + 1) := fun k m hk => nowAt_next s1 (fun m hm => (i64_wf (s3 m hm)).2) hmem (fun d hd => (HF.out d hd).t1) hk
      have HN := Lib.hid hnext
      have HE := Lib.hid (mostAt_most (ss := ss) (fun d hd => (hmem d hd).1))
      have hss : ss.length ≤ 200000 := by omega
      clear s1 s2 s3 s4 hrow hb hmem hnext HM2 HB HF
      go_wp2_with fail
      go_loopw [6, 7, 43] (fun mv nv kv wq => ∃ k : Nat, k ≤ ss.length ∧ mv = .int .i64 (mostAt l ss k) ∧ nv = .int .i64 (nowAt l ss k) ∧ kv = .int .i64 k ∧ wq = w4) (fun _ _ kv _ => ss.length - (intOf kv).toNat)
      case atStart => exact ⟨0, Nat.zero_le _, rfl, rfl, rfl, rfl⟩
      case round =>
        obtain ⟨k, hk, rfl, rfl, rfl, rfl⟩ := hrel
        rcases Nat.lt_or_ge k ss.length with hkl | hkl
        · have hkl' : (k : Int) < (ss.length : Int) := by omega
          obtain ⟨m, hm⟩ : ∃ m, ss[k]? = some m := ⟨_, List.getElem?_eq_getElem hkl⟩
          rcases HR.out.2 with ⟨hv, h0⟩ | ⟨g, cp, cur, hv, _, _, hcp, _⟩
          · omega
          cases hv
          have hcell : wr.cell? ⟨g, k, none⟩ = some (.int .i64 m) := by
            rw [HR.out.cellAt k (by omega), List.getElem?_map, hm]
            rfl
          have hwf := i64_wf (HS3.out m (List.mem_of_getElem? hm))
          have hw0 := hwf.1
          have hw1 := hwf.2
          have b0 := dAdds_bound m l
          have b1 := nowAt_le l ss k
          have b2 := mostAt_le l ss k
          have hN := HN.out k m hm
          have hM := mostAt_next l ss k
          obtain ⟨x, hx⟩ : ∃ x, dAdds l m = x := ⟨_, rfl⟩
          rw [hx] at b0 hN
          have HX := Lib.hid hx
          have HNN := Lib.hid hN
          have HMM := Lib.hid hM
          clear hx hN hM hwf hm
          generalize hnk : nowAt l ss k = N at b1 HNN ⊢
          generalize hmk : mostAt l ss k = M at b2 HMM ⊢
          clear hnk hmk
          have b3 : -100000 ≤ x ∧ x ≤ 100000 := by omega
          have b4 : N ≤ 100000 := by omega
          have b5 : M ≤ 100000 := by omega
          clear b0 b1 b2
          go_wp2_with (first
            | (at_lookup; refine list_im_look rfl _ _ _ rfl mty_ii rfl HM4.out m x rfl (wf_i64 hw0 hw1) HX.out ?_)
            | fail)
          go_roundw
          case rel => exact ⟨k + 1, by omega, congrArg (Value.int .i64) (by have h1 := HMM.out; have h2 := HNN.out; omega), congrArg (Value.int .i64) HNN.out, by go_num, trivial⟩
          case measure => first | omega | (simp [intOf]; done) | (simp [intOf]; omega)
        · obtain rfl : k = ss.length := by omega
          have hnl2 : ¬ (ss.length : Int) < (ss.length : Int) := by omega
          go_wp2_with fail
          go_ret
          exact ⟨congrArg Ending.returned (congrArg (Value.int .i64) (by rw [HE.out, hll])), HB4.out⟩
end Go.Proofs.YtkadjpllappalaaGreat
