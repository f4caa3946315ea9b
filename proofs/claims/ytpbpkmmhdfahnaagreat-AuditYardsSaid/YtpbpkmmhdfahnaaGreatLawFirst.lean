/-
  The law's own 'may' and 'first', of any events: whether one may be; the first one that may not be. No condition but that numbers fit their kinds.
-/
import Derived.Test.YtpbpkmmhdfahnaaGreatLawMayN
import Derived.Test.YtpbpkmmhdfahnaaGreatLawMayV
import Derived.Test.YtpbpkmmhdfahnaaGreatLawMayW
import Derived.Test.YtpbpkmmhdfahnaaGreatLawMayW2
import Derived.Test.YtpbpkmmhdfahnaaGreatLawMayH
namespace Go.Proofs.YtpbpkmmhdfahnaaGreat
open Go.RowKit
set_option linter.unusedVariables false

section
variable {w : World} {t s so d : Int} {N n cap tb off : Nat} {A : Option Addr} {L : List Ev} {e : Ev}
theorem may_word (h : MayAt w t s so d N A n cap tb off L e) (c1 : 0 ≤ e.who) (c2 : e.who < t) (c3 : 0 ≤ e.cell) (c4 : e.cell < 2 * N + 2 * t) (c5 : lastE L e.cell = e.old) (c6 : e.cell < N) (b : Bool) (hb : b = true ↔ MayW s e) :
    Calls Tryz.prog 27 #[cf t s so d, .slice A n cap, e.v] w fun r w' => r = .returned (.bool b) ∧ Below w.heap.size w w' := by
  by_cases k2 : e.op = 2
  · exact may_wordB h c1 c2 c3 c4 c5 c6 b hb k2
  · exact may_wordA h c1 c2 c3 c4 c5 c6 b hb k2
/-- The law's own 'may': just where the page says. -/
theorem lmay_any (h : MayAt w t s so d N A n cap tb off L e) (b : Bool) (hb : b = true ↔ May t s so N L e) :
    Calls Tryz.prog 27 #[cf t s so d, .slice A n cap, e.v] w fun r w' => r = .returned (.bool b) ∧ Below w.heap.size w w' := by
  by_cases hc : e.who < 0 ∨ t ≤ e.who ∨ e.cell < 0 ∨ 2 * N + 2 * t ≤ e.cell ∨ e.old ≠ lastE L e.cell
  · obtain rfl : b = false := by
      cases b with
      | false => rfl
      | true =>
        obtain ⟨p1, p2, p3, p4, p5, _⟩ := hb.1 rfl
        rcases hc with hq | hq | hq | hq | hq
        · omega
        · omega
        · omega
        · omega
        · exact absurd p5 hq
    exact may_out h hc
  · have c1 : 0 ≤ e.who := by omega
    have c2 : e.who < t := by omega
    have c3 : 0 ≤ e.cell := by omega
    have c4 : e.cell < 2 * N + 2 * t := by omega
    have c5 : lastE L e.cell = e.old := by
      by_cases hq : e.old = lastE L e.cell
      · exact hq.symm
      · exact absurd (.inr (.inr (.inr (.inr hq)))) hc
    have hmid : b = true ↔ (if e.cell < N then MayW s e else if e.cell < 2 * N then MayV N s (lastE L) (loadE L) e else if e.cell < 2 * N + t then MayH N e else MayN so (e.cell - 2 * N - t) e) :=
      ⟨fun hq => (hb.1 hq).2.2.2.2.2, fun hq => hb.2 ⟨c1, c2, c3, c4, c5.symm, hq⟩⟩
    by_cases k1 : e.cell < N
    · rw [if_pos k1] at hmid
      exact may_word h c1 c2 c3 c4 c5 k1 b hmid
    rw [if_neg k1] at hmid
    by_cases k2 : e.cell < 2 * N
    · rw [if_pos k2] at hmid
      exact may_value h c1 c2 c3 c4 c5 (by omega) k2 b hmid
    rw [if_neg k2] at hmid
    by_cases k3 : e.cell < 2 * N + t
    · rw [if_pos k3] at hmid
      exact may_hazard h c1 c2 c3 c4 c5 (by omega) k3 b hmid
    · rw [if_neg k3] at hmid
      exact may_number h c1 c2 c3 c4 c5 (by omega) b hmid
end

/-- The number of the first event that may not be; -1, if all may be. -/
def FirstIs (t s so : Int) (N : Nat) (L : List Ev) (r : Int) : Prop :=
  (r = -1 ∧ AllMay t s so N L) ∨ ∃ (i : Nat) (e : Ev), r = (i : Int) ∧ L[i]? = some e ∧ AllMay t s so N (L.take i) ∧ ¬ May t s so N (L.take i) e
theorem FirstIs.exists (t s so : Int) (N : Nat) (L : List Ev) : ∃ r, FirstIs t s so N L r := by
  have hg : ∀ i, i ≤ L.length → AllMay t s so N (L.take i) ∨ ∃ r, FirstIs t s so N L r := by
    intro i
    induction i with
    | zero => exact fun _ => .inl (by rw [List.take_zero]; exact AllMay.nil _ _ _ _)
    | succ i ih =>
      intro hi
      rcases ih (by omega) with ha | hr
      · obtain ⟨e, he⟩ : ∃ e, L[i]? = some e := ⟨_, List.getElem?_eq_getElem (by omega)⟩
        by_cases hm : May t s so N (L.take i) e
        · refine .inl ?_
          rw [List.take_add_one, he]
          exact ha.snoc hm
        · exact .inr ⟨i, .inr ⟨i, e, rfl, he, ha, hm⟩⟩
      · exact .inr hr
  rcases hg L.length (Nat.le_refl _) with ha | hr
  · exact ⟨-1, .inl ⟨rfl, by rw [List.take_length] at ha; exact ha⟩⟩
  · exact hr

set_option maxRecDepth 100000 in
set_option maxHeartbeats 4000000 in
/-- The law's own 'first'. -/
theorem lfirst_any {t s so d : Int} {N : Nat} (w : World) (A : Option Addr) (n cap tb off : Nat) (L : List Ev) (r0 : Int) (hl : Lay t s N) (hL : IsEvs w A n cap tb off L) (hn : n ≤ 100000) (hr : FirstIs t s so N L r0) :
    Calls Tryz.prog 11 #[cf t s so d, .slice A n cap] w fun r w' => r = .returned (.int .i64 r0) ∧ Below w.heap.size w w' := by
  have HLY := Lib.hid hl
  have hlen := hL.1
  have hcap := hL.2.1
  have HN := Lib.hid hlen
  have HR := Lib.hid hr
  have hb0 := below_new (Below.refl w.heap.size w) (.cells #[i64 t, i64 s, i64 so, i64 d] 29)
  have HB0 := Lib.hid hb0
  have HL := Lib.hid (hL.later hb0)
  have HC := Lib.hid (IsObj.made w [i64 t, i64 s, i64 so, i64 d] 29)
  clear hl hL hlen hr hb0
  go_enter Tryz.func11, Tryz.ntmps11
  go_wp2_with fail
  generalize w.alloc (.cells #[i64 t, i64 s, i64 so, i64 d] 29) = w0 at HC HL HB0 ⊢
  generalize hwb : w.heap.size = wb at HC ⊢
  have HWB := Lib.hid hwb
  clear hwb
  go_loopw [9] (fun iw wr => ∃ i : Nat, i ≤ n ∧ iw = .int .i64 i ∧ Hid (Below w0.heap.size w0 wr) ∧ Hid (AllMay t s so N (L.take i))) (fun iw _ => n - (RowKit.intOf iw).toNat)
  case atStart => exact ⟨0, Nat.zero_le _, rfl, Below.refl _ _, by show AllMay _ _ _ _ _; rw [List.take_zero]; exact AllMay.nil _ _ _ _⟩
  case round =>
    obtain ⟨i, hi, rfl, HB, HA⟩ := hrel
    rcases Nat.lt_or_ge i n with hil | hil
    · have hil' : (i : Int) < (n : Int) := by omega
      have hic' : (i : Int) ≤ (cap : Int) := by omega
      obtain ⟨e, he⟩ : ∃ e, L[i]? = some e := ⟨_, List.getElem?_eq_getElem (by rw [HN.out]; exact hil)⟩
      have HE := Lib.hid he
      have hLr := HL.out.later HB.out
      obtain ⟨⟨c0, c1, c2, c3, c4, c5⟩, hfe⟩ := hLr.2.2.2 i e he
      obtain ⟨rfl, htb⟩ := hLr.2.2.1 (by omega)
      have hb2 := below_new (Below.refl wr.heap.size wr) (e.obj 40)
      have HC2 := Lib.hid ((HC.out.later HB.out).later hb2)
      have HB2 := Lib.hid (below_step HB.out hb2)
      have HL2 := Lib.hid (hLr.later hb2)
      have HO2 := Lib.hid (IsObj.made wr [i64 e.who, i64 e.op, i64 e.cell, u64 e.old, u64 e.new, .bool e.ok] 40)
      have HFE := Lib.hid hfe
      have hcp0 : ¬ cap = 0 := by omega
      clear he hb2 hLr HB hfe
      go_wp2_with fail
      clear c0 c1 c2 c3 c4 c5 htb
      generalize wr.alloc (e.obj 40) = w2 at HC2 HB2 HL2 HO2 ⊢
      generalize wr.heap.size = eb at HO2 ⊢
      obtain ⟨q0, q1, q2, q3⟩ : _ ∧ _ ∧ _ ∧ _ := ⟨HC2.out.at' 0 _ rfl, HC2.out.at' 1 _ rfl, HC2.out.at' 2 _ rfl, HC2.out.at' 3 _ rfl⟩
      obtain ⟨e0, e1, e2, e3, e4, e5⟩ : _ ∧ _ ∧ _ ∧ _ ∧ _ ∧ _ := ⟨HO2.out.at' 0 _ rfl, HO2.out.at' 1 _ rfl, HO2.out.at' 2 _ rfl, HO2.out.at' 3 _ rfl, HO2.out.at' 4 _ rfl, HO2.out.at' 5 _ rfl⟩
      by_cases hm : May t s so N (L.take i) e
      · have HM : Hid (∀ w', Below w2.heap.size w2 w' → Calls Tryz.prog 27 #[cf t s so d, .slice (some ⟨tb, off, none⟩) i cap, e.v] w' fun r w'' => r = .returned (.bool true) ∧ Below w'.heap.size w' w'') := Lib.hid (fun w' hb => lmay_any ⟨HLY.out, (HL2.out.later hb).take (by omega), by omega, HFE.out⟩ true ⟨fun _ => hm, fun _ => rfl⟩)
        have HA2 : Hid (AllMay t s so N (L.take (i + 1))) := Lib.hid (by rw [List.take_add_one, HE.out]; exact HA.out.snoc hm)
        clear hm
        refine wp_region_seq ((0, true) :: (1, true) :: (2, true) :: (3, true) :: (4, true) :: (5, false) :: (6, true) :: []) (by kernel_rfl) (by kernel_rfl) (by kernel_rfl) (by decide) (fun _ _ _ _ _ h => h) (fun hHeld => ?_)
        repeat (first
          | (refine seq_take (v := ?_) rfl ?_ ?_ ?_; rotate_left 1; rfl; (focus (intro wS hSw; have hk := below_rule hSw; go_simp; first | done | with_reducible rfl)); (try simp only [Act.put, List.setIfInBounds_toArray, List.set_cons_zero, List.set_cons_succ]))
          | (refine seq_skip rfl ?_ ?_; rfl; (try simp only [Act.put, List.setIfInBounds_toArray, List.set_cons_zero, List.set_cons_succ]))
          | (refine seq_run rfl (fun K hK => ?_); go_simp; (try (first | (go_at_call 27; refine (HM.out _ hHeld).mono ?_; rintro e w' ⟨rfl, hb'⟩))); (try go_wp2_with fail); refine hK.out _ _ ?_ ?_; (focus (first | exact below_step hHeld hb' | exact below_new hHeld _ | exact hHeld)); (try clear hb'); clear hHeld hK K; intro hHeld; (try simp only [Act.put, List.setIfInBounds_toArray, List.set_cons_zero, List.set_cons_succ])))
        first | refine seq_done ?_ | skip
        have HB3 := Lib.hid (below_step HB2.out hHeld)
        clear hHeld
        go_wp2_with fail
        go_roundw
        case rel => exact ⟨i + 1, by omega, by go_num, HB3, HA2⟩
        case measure => first | omega | (simp [RowKit.intOf]; done) | (simp [RowKit.intOf]; omega)
      · have HM : Hid (∀ w', Below w2.heap.size w2 w' → Calls Tryz.prog 27 #[cf t s so d, .slice (some ⟨tb, off, none⟩) i cap, e.v] w' fun r w'' => r = .returned (.bool false) ∧ Below w'.heap.size w' w'') := Lib.hid (fun w' hb => lmay_any ⟨HLY.out, (HL2.out.later hb).take (by omega), by omega, HFE.out⟩ false ⟨(fun h => by cases h), fun h => absurd h hm⟩)
        have HV : Hid (r0 = (i : Int)) := Lib.hid (by
          rcases HR.out with ⟨_, ha⟩ | ⟨j, e', rfl, hj, ha, hnm⟩
          · exact absurd (ha i e HE.out) hm
          · rcases (by omega : i < j ∨ i = j ∨ j < i) with hq | hq | hq
            · have h1 : (L.take j)[i]? = some e := by rw [List.getElem?_take_of_lt hq]; exact HE.out
              have h2 := ha i e h1
              rw [List.take_take, Nat.min_eq_left (by omega)] at h2
              exact absurd h2 hm
            · rw [hq]
            · have h1 : (L.take i)[j]? = some e' := by rw [List.getElem?_take_of_lt hq]; exact hj
              have h2 := HA.out j e' h1
              rw [List.take_take, Nat.min_eq_left (by omega)] at h2
              exact absurd h2 hnm)
        clear hm
        refine wp_region_seq ((0, true) :: (1, true) :: (2, true) :: (3, true) :: (4, true) :: (5, false) :: (6, true) :: []) (by kernel_rfl) (by kernel_rfl) (by kernel_rfl) (by decide) (fun _ _ _ _ _ h => h) (fun hHeld => ?_)
        repeat (first
          | (refine seq_take (v := ?_) rfl ?_ ?_ ?_; rotate_left 1; rfl; (focus (intro wS hSw; have hk := below_rule hSw; go_simp; first | done | with_reducible rfl)); (try simp only [Act.put, List.setIfInBounds_toArray, List.set_cons_zero, List.set_cons_succ]))
          | (refine seq_skip rfl ?_ ?_; rfl; (try simp only [Act.put, List.setIfInBounds_toArray, List.set_cons_zero, List.set_cons_succ]))
          | (refine seq_run rfl (fun K hK => ?_); go_simp; (try (first | (go_at_call 27; refine (HM.out _ hHeld).mono ?_; rintro e w' ⟨rfl, hb'⟩))); (try go_wp2_with fail); refine hK.out _ _ ?_ ?_; (focus (first | exact below_step hHeld hb' | exact below_new hHeld _ | exact hHeld)); (try clear hb'); clear hHeld hK K; intro hHeld; (try simp only [Act.put, List.setIfInBounds_toArray, List.set_cons_zero, List.set_cons_succ])))
        first | refine seq_done ?_ | skip
        have HB3 := Lib.hid (below_step HB2.out hHeld)
        clear hHeld
        go_wp2_with fail
        go_ret
        exact ⟨by rw [HV.out]; rfl, below_step' HB0.out HB3.out HB0.out.size⟩
    · obtain rfl : i = n := by omega
      have hnn : ¬ (i : Int) < (i : Int) := by omega
      have HV : Hid (r0 = -1) := Lib.hid (by
        rcases HR.out with ⟨h1, _⟩ | ⟨j, e', rfl, hj, ha, hnm⟩
        · exact h1
        · have hji : j < i := by have := (List.getElem?_eq_some_iff.1 hj).1; have := HN.out; omega
          have h1 : (L.take i)[j]? = some e' := by rw [List.getElem?_take_of_lt hji]; exact hj
          have h2 := HA.out j e' h1
          rw [List.take_take, Nat.min_eq_left (by omega)] at h2
          exact absurd h2 hnm)
      go_wp2_with fail
      go_ret
      exact ⟨by rw [HV.out]; rfl, below_step' HB0.out HB.out HB0.out.size⟩
end Go.Proofs.YtpbpkmmhdfahnaaGreat
