/-
  The contract of package audit's First: the number of the first event that may not be; -1, if all may be. No condition but that numbers fit their kinds.
-/
import Derived.Test.YtpbpkmmhdfahnaaGreatAudNote
import Derived.Test.YtpbpkmmhdfahnaaGreatLawFirst
import Derived.Carry
namespace Go.Proofs.YtpbpkmmhdfahnaaGreat
open Go.RowKit Go.Maps
set_option linter.unusedVariables false

section
variable {w w' : World} {wb bc bg : Nat} {t s so d : Int} {N n : Nat}
/-- A watch behind the first i events. -/
abbrev WBeh (w : World) (wb bc bg : Nat) (t s so d : Int) (N : Nat) (L : List Ev) (i : Nat) : Prop := WAt w wb bc bg t s so d N i (lastE (L.take i)) (loadE (L.take i))
theorem lastE_upd {L : List Ev} {i : Nat} {e : Ev} (he : L[i]? = some e) : updF (lastE (L.take i)) e = lastE (L.take (i + 1)) := by
  rw [List.take_add_one, he]
  funext c
  exact (lastE_snoc _ _ _).symm
theorem loadE_upd {L : List Ev} {i : Nat} {e : Ev} (he : L[i]? = some e) : updG (loadE (L.take i)) e = loadE (L.take (i + 1)) := by
  rw [List.take_add_one, he]
  funext who c
  exact (loadE_snoc _ _ _ _).symm
/-- The world in which First begins its round. -/
abbrev wFirst (w : World) (t s so d : Int) : World := (((w.alloc (.cells #[i64 t, i64 s, i64 so, i64 d] 29)).alloc (.map #[] 0)).alloc (.map #[] 0)).alloc (.cells #[i64 t, i64 s, i64 so, i64 d, .map (some (w.heap.size + 1)), .map (some (w.heap.size + 1 + 1))] 73)
theorem wfirst_ok (hl : Lay t s N) (L : List Ev) : WBeh (wFirst w t s so d) (w.heap.size + 1 + 1 + 1) (w.heap.size + 1) (w.heap.size + 1 + 1) t s so d N L 0 ∧ Below w.heap.size w (wFirst w t s so d) := by
  obtain ⟨w1, h1⟩ : ∃ w1, w.alloc (.cells #[i64 t, i64 s, i64 so, i64 d] 29) = w1 := ⟨_, rfl⟩
  have s1 : w1.heap.size = w.heap.size + 1 := by rw [← h1]; simp
  have b1 : Below w.heap.size w w1 := by rw [← h1]; exact below_new (Below.refl _ _) _
  obtain ⟨w2, h2⟩ : ∃ w2, w1.alloc (.map #[] 0) = w2 := ⟨_, rfl⟩
  have s2 : w2.heap.size = w.heap.size + 1 + 1 := by rw [← h2]; simp [s1]
  have m1 : CMap w2 (w.heap.size + 1) 0 (fun _ => 0) := ⟨_, by rw [← h2, ← s1]; exact KMap.made w1 _ _ _ _ _ _⟩
  have b2 : Below w1.heap.size w1 w2 := by rw [← h2]; exact below_new (Below.refl _ _) _
  obtain ⟨w3, h3⟩ : ∃ w3, w2.alloc (.map #[] 0) = w3 := ⟨_, rfl⟩
  have s3 : w3.heap.size = w.heap.size + 1 + 1 + 1 := by rw [← h3]; simp [s2]
  have m2 : GMap N w3 (w.heap.size + 1 + 1) 0 (fun _ _ => none) := by rw [← h3, ← s2]; exact KMap.made w2 _ _ _ _ _ _
  have b3 : Below w2.heap.size w2 w3 := by rw [← h3]; exact below_new (Below.refl _ _) _
  have b4 := below_new (Below.refl w3.heap.size w3) (.cells #[i64 t, i64 s, i64 so, i64 d, .map (some (w.heap.size + 1)), .map (some (w.heap.size + 1 + 1))] 73)
  have o4 := IsObj.made w3 [i64 t, i64 s, i64 so, i64 d, .map (some (w.heap.size + 1)), .map (some (w.heap.size + 1 + 1))] 73
  rw [s3] at o4
  unfold wFirst
  rw [h1, h2, h3]
  refine ⟨⟨hl, o4, ?_, ?_, fun c => by rw [List.take_zero]; exact ⟨Int.le_refl _, by show (0 : Int) ≤ _; decide⟩, by omega, by omega, by omega, by omega⟩, below_step (below_step (below_step b1 b2) b3) b4⟩
  · obtain ⟨M, hm⟩ := m1
    exact ⟨M, (hm.later b3).later b4⟩
  · exact m2.later b4
end

set_option maxRecDepth 100000 in
set_option maxHeartbeats 4000000 in
theorem afirst_any {t s so d : Int} {N : Nat} (w : World) (A : Option Addr) (n cap tb off : Nat) (L : List Ev) (r0 : Int) (hl : Lay t s N) (hL : IsEvs w A n cap tb off L) (hn : n ≤ 100000) (hr : FirstIs t s so N L r0) :
    Calls Tryz.prog 8 #[cf t s so d, .slice A n cap] w fun r w' => r = .returned (.int .i64 r0) ∧ Below w.heap.size w w' := by
  have HLY := Lib.hid hl
  have hlen := hL.1
  have hcap := hL.2.1
  have HN := Lib.hid hlen
  have HR := Lib.hid hr
  have HL := Lib.hid hL
  clear hl hL hlen hr
  have hwf := wfirst_ok (w := w) (so := so) (d := d) HLY.out L
  have HW0 := Lib.hid hwf.1
  have HB0 := Lib.hid hwf.2
  clear hwf
  have hmm := @run_makeMap Tryz.prog
  go_enter Tryz.func8, Tryz.ntmps8
  go_wp2_with fail
  change Code.wp _ _ _ _ (wFirst w t s so d)
  generalize wFirst w t s so d = w0 at HW0 HB0 ⊢
  generalize hbc : w.heap.size + 1 = bc at HW0 ⊢
  generalize hbg : bc + 1 = bg at HW0 ⊢
  generalize hwb : bg + 1 = wb at HW0 ⊢
  have lc : w.heap.size ≤ bc := by omega
  have lg : w.heap.size ≤ bg := by omega
  clear hbc hbg hwb hmm
  go_loopw [14] (fun iw wr => ∃ i : Nat, i ≤ n ∧ iw = .int .i64 i ∧ Hid (Below w.heap.size w wr) ∧ Hid (WBeh wr wb bc bg t s so d N L i) ∧ Hid (AllMay t s so N (L.take i))) (fun iw _ => n - (RowKit.intOf iw).toNat)
  case atStart => exact ⟨0, Nat.zero_le _, rfl, HB0, HW0, by show AllMay _ _ _ _ _; rw [List.take_zero]; exact AllMay.nil _ _ _ _⟩
  case round =>
    clear HB0 HW0
    obtain ⟨i, hi, rfl, HB, HW, HA⟩ := hrel
    rcases Nat.lt_or_ge i n with hil | hil
    · have hil' : (i : Int) < (n : Int) := by omega
      have hic' : (i : Int) ≤ (cap : Int) := by omega
      obtain ⟨e, he⟩ : ∃ e, L[i]? = some e := ⟨_, List.getElem?_eq_getElem (by rw [HN.out]; exact hil)⟩
      have HE := Lib.hid he
      have hLr := HL.out.later HB.out
      obtain ⟨⟨c0, c1, c2, c3, c4, c5⟩, hfe⟩ := hLr.2.2.2 i e he
      obtain ⟨rfl, htb⟩ := hLr.2.2.1 (by omega)
      have hb2 := below_new (Below.refl wr.heap.size wr) (e.obj 40)
      have HB2 := Lib.hid (below_step HB.out hb2)
      have HW2 : Hid (WBeh (wr.alloc (e.obj 40)) wb bc bg t s so d N L i) := Lib.hid (HW.out.later hb2)
      have HO2 := Lib.hid (IsObj.made wr [i64 e.who, i64 e.op, i64 e.cell, u64 e.old, u64 e.new, .bool e.ok] 40)
      have HFE := Lib.hid hfe
      have hcp0 : ¬ cap = 0 := by omega
      clear he hb2 hLr HB HW hfe
      by_cases hm : May t s so N (L.take i) e
      · have hok := hm
        obtain ⟨m1, m2, m3, m4, -, -⟩ := hok
        have HM := Lib.hid hm
        have HA2 : Hid (AllMay t s so N (L.take (i + 1))) := Lib.hid (by rw [List.take_add_one, HE.out]; exact HA.out.snoc hm)
        clear hm
        go_wp2_with fail
        clear c0 c1 c2 c3 c4 c5 htb
        generalize wr.alloc (e.obj 40) = w2 at HB2 HW2 HO2 ⊢
        generalize wr.heap.size = eb at HO2 ⊢
        refine (amay_any HW2.out HFE.out true ⟨fun _ => HM.out, fun _ => rfl⟩).mono ?_
        rintro r w3 ⟨rfl, hb3⟩
        have HB3 := Lib.hid (below_step HB2.out hb3)
        have HW3 : Hid (WBeh w3 wb bc bg t s so d N L i) := Lib.hid (HW2.out.later hb3)
        have HO3 := Lib.hid (HO2.out.later hb3)
        clear hb3 HB2 HW2 HO2
        obtain ⟨e0, e1, e2, e3, e4, e5⟩ : _ ∧ _ ∧ _ ∧ _ ∧ _ ∧ _ := ⟨HO3.out.at' 0 _ rfl, HO3.out.at' 1 _ rfl, HO3.out.at' 2 _ rfl, HO3.out.at' 3 _ rfl, HO3.out.at' 4 _ rfl, HO3.out.at' 5 _ rfl⟩
        go_wp2_with fail
        refine (anote_any HW3.out HFE.out m1 m2 m3 m4 (by omega)).mono ?_
        rintro r w4 ⟨rfl, hw4, hk4⟩
        rw [lastE_upd HE.out, loadE_upd HE.out] at hw4
        have HW4 : Hid (WBeh w4 wb bc bg t s so d N L (i + 1)) := Lib.hid hw4
        have HB4 := Lib.hid (below_keep HB3.out hk4 HB3.out.size (fun k hk => by omega))
        clear hw4 hk4 HB3 HW3 HO3 e0 e1 e2 e3 e4 e5
        go_wp2_with fail
        go_roundw
        case rel => exact ⟨i + 1, by omega, by go_num, HB4, HW4, HA2⟩
        case measure => first | omega | (simp [RowKit.intOf]; done) | (simp [RowKit.intOf]; omega)
      · have HM := Lib.hid hm
        have HV : Hid (r0 = (i : Int)) := Lib.hid (by
          rcases HR.out with ⟨_, ha⟩ | ⟨j, e', rfl, hj, ha, hnm⟩
          · exact absurd (ha i e HE.out) hm
          · rcases (by omega : i < j ∨ i = j ∨ j < i) with hq | hq | hq
            · have h1 : (L.take j)[i]? = some e := by rw [List.getElem?_take_of_lt hq]; exact HE.out
              have h2 := ha i e h1
              rw [List.take_take, Nat.min_eq_left (by omega)] at h2
              exact absurd h2 hm
            · rw [hq]
            · have h1 : (L.take i)[j]? = some e' := by rw [List.getElem?_take_of_lt hq]; exact hj
              have h2 := HA.out j e' h1
              rw [List.take_take, Nat.min_eq_left (by omega)] at h2
              exact absurd h2 hnm)
        clear hm
        go_wp2_with fail
        clear c0 c1 c2 c3 c4 c5 htb
        generalize wr.alloc (e.obj 40) = w2 at HB2 HW2 HO2 ⊢
        generalize wr.heap.size = eb at HO2 ⊢
        refine (amay_any HW2.out HFE.out false ⟨(fun h => by cases h), fun h => absurd h HM.out⟩).mono ?_
        rintro r w3 ⟨rfl, hb3⟩
        have HB3 := Lib.hid (below_step HB2.out hb3)
        clear hb3 HB2 HW2 HO2
        go_wp2_with fail
        go_ret
        exact ⟨by rw [HV.out]; rfl, HB3.out⟩
    · obtain rfl : i = n := by omega
      have hnn : ¬ (i : Int) < (i : Int) := by omega
      have HV : Hid (r0 = -1) := Lib.hid (by
        rcases HR.out with ⟨h1, _⟩ | ⟨j, e', rfl, hj, ha, hnm⟩
        · exact h1
        · have hji : j < i := by have := (List.getElem?_eq_some_iff.1 hj).1; have := HN.out; omega
          have h1 : (L.take i)[j]? = some e' := by rw [List.getElem?_take_of_lt hji]; exact hj
          have h2 := HA.out j e' h1
          rw [List.take_take, Nat.min_eq_left (by omega)] at h2
          exact absurd h2 hnm)
      go_wp2_with fail
      go_ret
      exact ⟨by rw [HV.out]; rfl, HB.out⟩
end Go.Proofs.YtpbpkmmhdfahnaaGreat
