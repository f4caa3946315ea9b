/-
  The contract of hist's Tally: a new map that tells of each value how often it was put in, less how often it was had, where that isn't 0. No condition but that the list is no longer than 100000.
-/
import Derived.Test.YtkadjpllappalaaHistCalls
import Derived.Test.YtkadjpllappalaaTallyPure
import Derived.Test.YtkadjpllappalaaIMap
namespace Go.Proofs.Ytkadjpllappalaa
open Go.RowKit Go.Maps
set_option linter.unusedVariables false

theorem mty_ui : MapTy Try.prog 39 24 3 .u64 := ⟨Try.underlying39, Try.underlying24, Try.underlying3, Try.zeroValue3⟩
theorem wf_i64t {a : Int} (h0 : -9223372036854775808 ≤ a) (h1 : a ≤ 9223372036854775807) : (Lit.int .i64 a).wf = true := WalkArith.wf_i64 (by omega)
theorem Dd.Fit.key {d : Dd} (h : d.Fit) : (Lit.int .u64 (tKey d)).wf = true := by
  have h0 := h.x0
  have h1 := h.x1
  have h2 := h.v0
  have h3 := h.v1
  unfold tKey
  split
  · exact WalkArith.wf_u64 (by omega)
  · exact WalkArith.wf_u64 (by omega)

theorem tally_put {l : List Dd} {i : Nat} {d : Dd} (hd : l[i]? = some d) (hok : d.ok = true) {x : Int} (hx : tally (l.take i) (tKey d) = x) (v : Int) :
    putF (tally (l.take i)) (tKey d) (x + tSign d) v = tally (l.take (i + 1)) v ∧ putM (tHas (l.take i)) (tKey d) v = tHas (l.take (i + 1)) v := by
  rw [tally_snoc hd, tHas_snoc hd, hok]
  unfold putF putM tAdd
  subst hx
  by_cases e : v = tKey d
  · subst e
    rw [if_pos rfl, if_pos ⟨hok, rfl⟩, decide_eq_true rfl]
    exact ⟨rfl, by rw [Bool.true_and, Bool.or_true, Bool.true_or]⟩
  · rw [if_neg e, if_neg (fun h => e h.2), decide_eq_false e]
    exact ⟨by omega, by rw [Bool.false_or, Bool.and_false, Bool.or_false]⟩
theorem tally_skip {l : List Dd} {i : Nat} {d : Dd} (hd : l[i]? = some d) (hok : d.ok = false) (v : Int) : tally (l.take i) v = tally (l.take (i + 1)) v ∧ tHas (l.take i) v = tHas (l.take (i + 1)) v := by
  rw [tally_snoc hd, tHas_snoc hd, hok]
  unfold tAdd
  rw [if_neg (fun h => by rw [hok] at h; exact Bool.false_ne_true h.1)]
  exact ⟨by omega, by rw [Bool.false_and, Bool.or_false]⟩

/-- What the map tells while those that are 0 are taken out. -/
def Sweeps (F : Int → Int) (M : Int → Bool) (D : DataW Unit) (left : Lit → Bool) : Prop :=
  ∀ k, (Lit.int .u64 k).wf = true → D.atKey (.int .u64 k) (.lit (.int .i64 0)) = .lit (.int .i64 (F k)) ∧ Maps.has D (.int .u64 k) = (M k && (decide (F k ≠ 0) || left (.int .u64 k)))
theorem Sweeps.stay {F : Int → Int} {M : Int → Bool} {D : DataW Unit} {left : Lit → Bool} (h : Sweeps F M D left) {x : Int} (hx : F x ≠ 0) : Sweeps F M D (fun z => left z && !z.sameKey (.int .u64 x)) := fun k hk => by
  refine ⟨(h k hk).1, (h k hk).2.trans ?_⟩
  show _ = (M k && (decide (F k ≠ 0) || (left (.int .u64 k) && !(Lit.int .u64 k).sameKey (.int .u64 x))))
  by_cases e : k = x
  · subst e
    rw [decide_eq_true hx, Bool.true_or, Bool.true_or]
  · rw [show (Lit.int .u64 k).sameKey (.int .u64 x) = false from sameKey_ne (fun hh => e (by cases hh; rfl)), Bool.not_false, Bool.and_true]
theorem Sweeps.drop {F : Int → Int} {M : Int → Bool} {D : DataW Unit} {left : Lit → Bool} (h : Sweeps F M D left) {x : Int} (hx : F x = 0) : Sweeps F M (D.del (.int .u64 x)) (fun z => left z && !z.sameKey (.int .u64 x)) := fun k hk => by
  show _ ∧ _ = (M k && (decide (F k ≠ 0) || (left (.int .u64 k) && !(Lit.int .u64 k).sameKey (.int .u64 x))))
  by_cases e : k = x
  · subst e
    have hs : (Lit.int .u64 k).sameKey (.int .u64 k) = true := by simp [Lit.sameKey]
    rw [atKey_del_same, has_del_same, hs, Bool.not_true, Bool.and_false, Bool.or_false, hx, decide_eq_false (fun hh => hh rfl), Bool.and_false]
    exact ⟨rfl, rfl⟩
  · have hne : Lit.int .u64 k ≠ Lit.int .u64 x := fun hh => e (by cases hh; rfl)
    rw [atKey_del_other hne, has_del_other hne, show (Lit.int .u64 k).sameKey (.int .u64 x) = false from sameKey_ne hne, Bool.not_false, Bool.and_true]
    exact h k hk

set_option maxRecDepth 100000 in
set_option maxHeartbeats 4000000 in
theorem tally_any (w : World) (a0 : Option Addr) (len cap tb off : Nat) (l : List Dd) (h : IsDds w a0 len cap tb off l) (hn : len ≤ 100000) :
    Calls Try.prog 15 #[.slice a0 len cap] w fun e w' => ∃ b n, e = .returned (.map (some b)) ∧ IMap Try.prog 24 3 .u64 w' b n (tally l) (fun v => decide (tally l v ≠ 0)) ∧ Below w.heap.size w w' := by
  have HL := Lib.hid h
  clear h
  have hmm := @run_makeMap Try.prog
  go_enter Try.func15, Try.ntmps15
  go_wp2_with fail
  have HM0 : Hid (IMap Try.prog 24 3 .u64 (w.alloc (.map #[] 0)) w.heap.size 0 (tally (l.take 0)) (tHas (l.take 0))) := (IMap.made w _ _ _ _).as (fun k => rfl) (fun k => rfl)
  have HB0 : Hid (Below w.heap.size w (w.alloc (.map #[] 0))) := below_new (Below.refl _ _) _
  go_loopw [11] (fun iw wr => ∃ i : Nat, i ≤ len ∧ iw = .int .i64 i ∧ Hid (Below w.heap.size w wr) ∧ Hid (IMap Try.prog 24 3 .u64 wr w.heap.size i (tally (l.take i)) (tHas (l.take i)))) (fun iw _ => len - (RowKit.intOf iw).toNat)
  case atStart => exact ⟨0, Nat.zero_le _, rfl, HB0, HM0⟩
  case round =>
    clear HM0 HB0
    obtain ⟨i, hi, rfl, HB, HM⟩ := hrel
    rcases Nat.lt_or_ge i len with hil | hil
    · have hil' : (i : Int) < (len : Int) := by omega
      obtain ⟨d, hd⟩ : ∃ d, l[i]? = some d := ⟨_, List.getElem?_eq_getElem (by rw [HL.out.1]; exact hil)⟩
      obtain ⟨rfl, htb⟩ := HL.out.2.2.1 (by omega)
      obtain ⟨hA, hF⟩ := (HL.out.later HB.out (fun _ => htb)).2.2.2 i d hd
      have hcap := HL.out.2.1
      have b0 := tally_bound (tKey d) (l.take i)
      obtain ⟨x, hx⟩ : ∃ x, tally (l.take i) (tKey d) = x := ⟨_, rfl⟩
      rw [hx, List.length_take] at b0
      have b1 : -100000 ≤ x ∧ x ≤ 100000 := by omega
      clear b0
      obtain ⟨c0, c1, c2, c3, c4, c5, c6, c7, c8, c9, c10⟩ := hA
      have HX := Lib.hid hx
      have HD := Lib.hid hd
      have HK := Lib.hid hF.key
      have HBN := Lib.hid (below_new HB.out (d.obj 32))
      have HMN := Lib.hid (HM.out.later (below_new (Below.refl _ _) (d.obj 32)))
      clear hx hd hF
      cases hok : d.ok
      case false =>
        have HOK := Lib.hid hok
        rw [hok] at c7
        have HMM := Lib.hid (HMN.out.as (fun v => (tally_skip HD.out hok v).1) (fun v => (tally_skip HD.out hok v).2))
        clear hok
        go_wp2_with fail
        go_roundw
        case rel => exact ⟨i + 1, by omega, by go_num, by rw [← HOK.out]; exact HBN, by rw [← HOK.out]; exact Lib.hid (HMM.out.mono (by omega))⟩
        case measure => first | omega | (simp [RowKit.intOf]; done) | (simp [RowKit.intOf]; omega)
      case true =>
        have HOK := Lib.hid hok
        rw [hok] at c7
        have HP := Lib.hid (fun v => tally_put HD.out hok HX.out v)
        clear hok
        by_cases hk : d.kd = 0
        case pos =>
          have q1 : (d.kd == 0) = true := beq_iff_eq.2 hk
          have e1 : tKey d = d.x := if_pos hk
          have e2 : tSign d = 1 := if_pos hk
          rw [e1] at HX HK
          rw [e1, e2] at HP
          clear e1 e2 hk
          go_wp2_with (first
            | (at_lookup; refine list_im_look rfl _ _ _ rfl mty_ui rfl (HM.out.later (below_new (Below.refl _ _) _)) _ x rfl HK.out HX.out ?_)
            | (at_mapUpdate; refine list_im_put rfl _ _ _ _ rfl mty_ui rfl (HM.out.later (below_new (Below.refl _ _) _)) (by unfold maxLen; omega) _ (x + 1) rfl rfl HK.out (wf_i64t (by omega) (by omega)) ?_; intro w2 hM2 hG2)
            | fail)
          have hB2 : Below w.heap.size w w2 := Below.grown (below_new HB.out _) hG2 (by simp; have := HB.out.size; omega) (fun k hk => by cases hk; exact Nat.le_refl _)
          have hM3 := hM2.as (fun v => (HP.out v).1) (fun v => (HP.out v).2)
          go_roundw
          case rel => exact ⟨i + 1, by omega, by go_num, hB2, hM3⟩
          case measure => first | omega | (simp [RowKit.intOf]; done) | (simp [RowKit.intOf]; omega)
        case neg =>
          have q1 : (d.kd == 0) = false := beq_false_of_ne hk
          have e1 : tKey d = d.v := if_neg hk
          have e2 : tSign d = -1 := if_neg hk
          rw [e1] at HX HK
          rw [e1, e2] at HP
          clear e1 e2 hk
          go_wp2_with (first
            | (at_lookup; refine list_im_look rfl _ _ _ rfl mty_ui rfl (HM.out.later (below_new (Below.refl _ _) _)) _ x rfl HK.out HX.out ?_)
            | (at_mapUpdate; refine list_im_put rfl _ _ _ _ rfl mty_ui rfl (HM.out.later (below_new (Below.refl _ _) _)) (by unfold maxLen; omega) _ (x - 1) rfl rfl HK.out (wf_i64t (by omega) (by omega)) ?_; intro w2 hM2 hG2)
            | fail)
          have hB2 : Below w.heap.size w w2 := Below.grown (below_new HB.out _) hG2 (by simp; have := HB.out.size; omega) (fun k hk => by cases hk; exact Nat.le_refl _)
          have hM3 := hM2.as (fun v => (HP.out v).1) (fun v => (HP.out v).2)
          go_roundw
          case rel => exact ⟨i + 1, by omega, by go_num, hB2, hM3⟩
          case measure => first | omega | (simp [RowKit.intOf]; done) | (simp [RowKit.intOf]; omega)
    · obtain rfl : i = len := by omega
      have hnl : ¬ (i : Int) < (i : Int) := by omega
      have hM := HM.out
      rw [List.take_of_length_le (by rw [HL.out.1]; exact Nat.le_refl _)] at hM
      obtain ⟨D0, hown, hD⟩ := hM
      have HO := Lib.hid hown
      have HS0 : Hid (Sweeps (tally l) (tHas l) D0 (Maps.has D0)) := Lib.hid (fun k hk => ⟨(hD k hk).1, by rw [(hD k hk).2]; cases tHas l k <;> simp⟩)
      clear HM hown hD
      go_wp2_with (first
        | (at_range; refine wpList_range_own _ rfl _ 39 rfl 24 3 (int_keyed Try.underlying24) Try.underlying39 _ w.heap.size i D0 rfl HO.out ?_; intro w0 hrg0 hg0 hs0)
        | fail)
      (try go_frame)
      have HR0 := Lib.hid hrg0
      have HB1 : Hid (Below w.heap.size w w0) := Lib.hid (HB.out.grown hg0 HB.out.size (fun k hk => by cases hk))
      generalize hr : wr.heap.size = r at HR0 ⊢
      have hrw : w.heap.size ≤ r := by rw [← hr]; exact HB.out.size
      clear hrg0 hg0 hs0 HB HO hr
      go_loopw [6] (fun _ wr => ∃ (D : DataW Unit) (left : Lit → Bool) (cnt : Nat), Hid (wr.ranges Try.prog 24 (plainElem Try.prog 3) w.heap.size r i D left cnt) ∧ Hid (Sweeps (tally l) (tHas l) D left) ∧ Hid (Below w.heap.size w wr)) (fun _ wr => wr.rangeLeft w.heap.size r)
      case atStart => exact ⟨_, _, _, HR0, HS0, HB1⟩
      case round =>
        clear HR0 HS0 HB1
        obtain ⟨D, left, cnt, HR, HS, HB⟩ := hrel
        go_wp2_with (first
          | (at_next; refine wpList_next_ranges_ii _ rfl _ rfl 24 3 .u64 .i64 (int_keyed Try.underlying24) Try.underlying24 Try.underlying3 w.heap.size r i _ _ _ rfl HR.out ?_ ?_)
          | fail)
        · intro hc0 hl0
          have HL0 := Lib.hid hl0
          clear hc0 hl0
          go_wp2_with fail
          go_ret
          refine ⟨w.heap.size, i, rfl, ⟨D, HR.out.owns, fun k hk => ⟨(HS.out k hk).1, ?_⟩⟩, HB.out⟩
          show _ = decide (tally l k ≠ 0)
          rw [(HS.out k hk).2, HL0.out, Bool.or_false]
          by_cases e : tally l k = 0
          · rw [decide_eq_false (fun hh => hh e), Bool.and_false]
          · rw [decide_eq_true e, Bool.and_true]
            cases hh : tHas l k with
            | true => rfl
            | false => exact absurd (tally_none hh) e
        · intro x c w1 cnt1 hwx hwc hlx hat hrg1 hlt hg1 hs1 hen
          have hc : c = tally l x := by
            have h1 := (HS.out x hwx).1
            rw [hat] at h1
            cases h1
            rfl
          have HG1 := Lib.hid hg1
          have HRG := Lib.hid hrg1
          have HB1 : Hid (Below w.heap.size w w1) := Lib.hid (HB.out.grown hg1 HB.out.size (fun k hk => by cases hk; exact hrw))
          have HLT : Hid (cnt1 < cnt) := Lib.hid hlt
          have HWX := Lib.hid hwx
          have hzz := (HS.out x hwx).1
          clear hlx hat hg1 hs1 hrg1 hlt hwc hwx hzz
          by_cases hz : c = 0
          case pos =>
            have HS2 := Lib.hid (Sweeps.drop HS.out (x := x) (by rw [← hc]; exact hz))
            subst hz
            clear hc HS
            go_wp2_with (first
              | (at_delete; refine wpList_delete_ranges _ rfl _ _ 39 24 rfl 3 (int_keyed Try.underlying24) Try.underlying39 _ w.heap.size r i _ _ _ rfl HRG.out _ _ rfl (keyOf_int_mk Try.underlying24 HWX.out) ?_; intro w2 cnt2 hrg2 hle hturn)
              | fail)
            rw [Maps.strike_twice] at hrg2
            have HRG2 := Lib.hid hrg2
            have HB2 : Hid (Below w.heap.size w w2) := Lib.hid (HB1.out.grown hturn.grown HB1.out.size (fun k hk => by cases hk; exact Nat.le_refl _))
            have HLE : Hid (cnt2 < cnt) := Lib.hid (Nat.lt_of_le_of_lt hle HLT.out)
            clear hrg2 hturn hle hen
            (try go_frame)
            go_roundw
            case rel => exact ⟨_, _, cnt2, HRG2, HS2, HB2⟩
            case measure => rw [HRG2.out.left_eq, HR.out.left_eq]; exact HLE.out
          case neg =>
            have q1 : (c == 0) = false := beq_false_of_ne hz
            have HS2 := Lib.hid (Sweeps.stay HS.out (x := x) (by rw [← hc]; exact hz))
            clear hc HS hz
            go_wp2_with fail
            go_roundw
            case rel => exact ⟨_, _, cnt1, HRG, HS2, HB1⟩
            case measure => rw [HRG.out.left_eq, HR.out.left_eq]; exact HLT.out
end Go.Proofs.Ytkadjpllappalaa
