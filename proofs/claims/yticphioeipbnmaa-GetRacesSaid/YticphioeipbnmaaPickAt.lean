/-
  The contract of At: what it answers, in terms of one number for each place. No condition but that the words are numbers of 64 bits, and no more than a million, and that it is asked of one of the two ends.
-/
import Derived.Test.YticphioeipbnmaaPickOrder
namespace Go.Proofs.Yticphioeipbnmaa
open Go.RowKit Go.Shelf Go.Lib Go.Sort
set_option linter.unusedVariables false

theorem pick_least (f : Nat → Int) (better : Nat → Nat → Bool) (hb : ∀ x m, better x m = decide (f x < f m)) (d : Array Nat) : ∀ k, ∃ i, i ≤ k ∧ pickBy better d k = d[i]! ∧ ∀ j, j ≤ k → f d[i]! ≤ f d[j]!
  | 0 => ⟨0, Nat.le_refl _, rfl, fun j hj => by obtain rfl : j = 0 := by omega
                                                exact Int.le_refl _⟩
  | k + 1 => by
    obtain ⟨i, h1, h2, h3⟩ := pick_least f better hb d k
    simp only [pickBy]
    rw [h2, hb]
    by_cases h : f d[k + 1]! < f d[i]!
    · rw [if_pos (by simpa using h)]
      refine ⟨k + 1, Nat.le_refl _, rfl, fun j hj => ?_⟩
      rcases Nat.lt_or_ge j (k + 1) with h4 | h4
      · have := h3 j (by omega)
        omega
      · obtain rfl : j = k + 1 := by omega
        exact Int.le_refl _
    · rw [if_neg (by simpa using h)]
      refine ⟨i, by omega, rfl, fun j hj => ?_⟩
      rcases Nat.lt_or_ge j (k + 1) with h4 | h4
      · exact h3 j (by omega)
      · obtain rfl : j = k + 1 := by omega
        omega

/-- The place that is picked stands at that end. -/
theorem end_of_pick {ws : List Int} (h0 : 0 < (upto ws ws.length).length) (f : Nat → Int) (better : Nat → Nat → Bool) (hb : ∀ x m, better x m = decide (f x < f m)) :
    ∃ i, pickBy better (upto ws ws.length).toArray ((upto ws ws.length).toArray.size - 1) = i ∧ i < ws.length ∧ live ws i ∧ ∀ j, j < ws.length → live ws j → f i ≤ f j := by
  obtain ⟨i, h1, h2, h3⟩ := pick_least f better hb (upto ws ws.length).toArray ((upto ws ws.length).toArray.size - 1)
  rw [List.size_toArray] at h1 h2 h3 ⊢
  have hi : i < (upto ws ws.length).length := by omega
  have hv : (upto ws ws.length).toArray[i]! = (upto ws ws.length)[i] := by rw [getElem!_pos _ i (by simpa using hi)]; rfl
  have hm : (upto ws ws.length)[i] ∈ upto ws ws.length := List.getElem_mem _
  rw [mem_upto] at hm
  refine ⟨_, h2, by rw [hv]; exact hm.1, by rw [hv]; exact hm.2, fun j hj hl => ?_⟩
  obtain ⟨q, hq, rfl⟩ := List.getElem_of_mem (mem_upto.2 ⟨hj, hl⟩)
  have := h3 q (by omega)
  rwa [getElem!_pos _ q (by simpa using hq)] at this

set_option maxRecDepth 100000 in
set_option maxHeartbeats 4000000 in
theorem at_any (W : World) (a : Option Addr) (cap : Nat) (ws : List Int) (e : Int) (he : e = 0 ∨ e = 1) (hW : IsWs W a ws) (hn : ws.length ≤ 1000000) :
    Calls Try.prog 53 #[.slice a ws.length cap, i64 e] W fun r w' => ∃ z : Int, r = .returned (i64 z) ∧ IsEnd ws e z ∧ Below W.heap.size W w' := by
  have HW := Lib.hid hW
  clear hW
  have eg : ∀ args w, (callFunc 59 args).run Try.prog w = .ok (.enter 59 args) w := enters_of Try.func59 (by kernel_rfl) rfl
  have Heg := Lib.hid eg
  clear eg
  rcases Nat.eq_zero_or_pos (upto ws ws.length).length with h0 | h0
  · have hnil := List.eq_nil_of_length_eq_zero h0
    have HN := Lib.hid hnil
    clear hnil h0
    go_enter Try.func53, Try.ntmps53
    go_wp2_with fail
    refine (live_any _ a cap ws HW.out hn).mono ?_
    rintro r w1 ⟨v, rfl, hown, hb1⟩
    obtain ⟨A, cp, rfl⟩ := own_shape hown
    have HB1 := Lib.hid hb1
    clear hown hb1
    rw [HN.out]
    go_wp2_with fail
    go_ret
    exact ⟨-1, rfl, .inl ⟨rfl, fun i hi hl => by have := mem_upto.2 ⟨hi, hl⟩; rw [HN.out] at this; cases this⟩, HB1.out⟩
  · have h0' : ((upto ws ws.length).length : Int) ≠ 0 := by omega
    have hlen : 0 < ws.length := by have := upto_len ws ws.length; omega
    have hk := fun i j => cfI_key HW.out.fit hn hlen i j
    obtain ⟨b, off, rfl, hc⟩ := HW.out.has hlen
    have HC := Lib.hid hc
    have H0 := Lib.hid h0
    have Hlen := Lib.hid hlen
    have HK := Lib.hid hk
    have q0 : (((upto ws ws.length).length : Int) == 0) = false := by simpa using h0'
    clear hc h0 hlen h0' hk
    rcases he with rfl | rfl
    · have hP := end_of_pick H0.out (fun i => wkey ws (i % ws.length)) (fun x m => decide (cfI ws ws.length x m < 0)) (fun x m => decide_eq_decide.2 (HK.out x m).1)
      have HP := Lib.hid hP
      clear hP
      go_enter Try.func53, Try.ntmps53
      go_wp2_with fail
      refine (live_any _ _ cap ws HW.out hn).mono ?_
      rintro r w1 ⟨v, rfl, hown, hb1⟩
      have HO := Lib.hid hown
      have HB1 := Lib.hid hb1
      obtain ⟨A, cp, rfl⟩ := own_shape hown
      clear hown hb1
      go_wp2_with fail
      refine (rightw_any _ _ ⟨_, _, _, rfl⟩).mono ?_
      rintro r w2 ⟨B, rfl, hB, hBc, hb2⟩
      have HO2 : Hid (w2.ownsRow W.heap.size 3 1 (.slice A (upto ws ws.length).length cp) (upto ws ws.length).length ((upto ws ws.length).map (fun i : Nat => i64 (i : Int)))) :=
        (tRow_ok W.heap.size 3 1 _ _ _).keep w1 w2 (fun _ => False) HO.out (Keep.of_below hb2) (fun _ _ h => h)
      have HB2 := Lib.hid (below_step HB1.out hb2)
      obtain ⟨g, cp', hv, hcp, hg⟩ := row_shape HO2.out H0.out
      cases hv
      have hgW : W.heap.size ≤ g := (HO2.out.lt g rfl).1
      have hgw1 : g < w1.heap.size := (HO.out.lt g rfl).2
      have hS := Any.slices_MinFunc minL (encI ws.length) (fun _ => rfl) (cfI ws ws.length) 59 #[.pointer (some ⟨B, 0, none⟩)] g 0 cp (upto ws ws.length).toArray w2 Heg.out
        (cmp_lays w2 ws HW.out.fit B b off ws.length cap g _ Hlen.out hn hBc (fun i hi => (below_rule HB2.out _ (by rw [HC.out i hi]; rfl)).trans (HC.out i hi)) (by omega) (by have := World.block_lt_of_cell? W ⟨b, off + 0, none⟩ (HC.out 0 Hlen.out); show b ≠ g; have h2 : b < W.heap.size := this; omega))
        (holds_row HO2.out (fun i hi => (mem_upto.1 hi).1)) hg (by rw [List.size_toArray]; have := upto_len ws ws.length; omega) (by rw [List.size_toArray]; exact H0.out)
      change Calls Try.prog 56 _ _ _ at hS
      obtain ⟨i, hi1, hi2, hi3, hi4⟩ := HP.out
      rw [hi1, List.size_toArray] at hS
      have HS := Lib.hid hS
      have HI : Hid (i % ws.length = i) := Nat.mod_eq_of_lt hi2
      have HE : Hid (IsEnd ws 0 (i : Int)) := .inr ⟨i, rfl, hi2, hi3, fun j hj hl => by
        rw [if_pos rfl]
        have := hi4 j hj hl
        rwa [HI.out, Nat.mod_eq_of_lt hj] at this⟩
      clear hS hB hBc hb2 hi1 hi2 hi3 hi4
      go_wp2_with fail
      refine HS.out.mono ?_
      rintro r w3 ⟨rfl, hsw⟩
      have HY : Hid (Below W.heap.size W w3) := by obtain ⟨nn, os, rfl⟩ := hsw; exact below_sort HB2.out hgW
      clear hsw
      unfold encI
      rw [HI.out]
      go_wp2_with fail
      go_ret
      exact ⟨i, rfl, HE.out, HY.out⟩
    · have hP := end_of_pick H0.out (fun i => -wkey ws (i % ws.length)) (fun x m => decide (0 < cfI ws ws.length x m)) (fun x m => decide_eq_decide.2 (by rw [(HK.out x m).2]; omega))
      have HP := Lib.hid hP
      clear hP
      go_enter Try.func53, Try.ntmps53
      go_wp2_with fail
      refine (live_any _ _ cap ws HW.out hn).mono ?_
      rintro r w1 ⟨v, rfl, hown, hb1⟩
      have HO := Lib.hid hown
      have HB1 := Lib.hid hb1
      obtain ⟨A, cp, rfl⟩ := own_shape hown
      clear hown hb1
      go_wp2_with fail
      refine (rightw_any _ _ ⟨_, _, _, rfl⟩).mono ?_
      rintro r w2 ⟨B, rfl, hB, hBc, hb2⟩
      have HO2 : Hid (w2.ownsRow W.heap.size 3 1 (.slice A (upto ws ws.length).length cp) (upto ws ws.length).length ((upto ws ws.length).map (fun i : Nat => i64 (i : Int)))) :=
        (tRow_ok W.heap.size 3 1 _ _ _).keep w1 w2 (fun _ => False) HO.out (Keep.of_below hb2) (fun _ _ h => h)
      have HB2 := Lib.hid (below_step HB1.out hb2)
      obtain ⟨g, cp', hv, hcp, hg⟩ := row_shape HO2.out H0.out
      cases hv
      have hgW : W.heap.size ≤ g := (HO2.out.lt g rfl).1
      have hgw1 : g < w1.heap.size := (HO.out.lt g rfl).2
      have hS := Any.slices_MaxFunc maxL (encI ws.length) (fun _ => rfl) (cfI ws ws.length) 59 #[.pointer (some ⟨B, 0, none⟩)] g 0 cp (upto ws ws.length).toArray w2 Heg.out
        (cmp_lays w2 ws HW.out.fit B b off ws.length cap g _ Hlen.out hn hBc (fun i hi => (below_rule HB2.out _ (by rw [HC.out i hi]; rfl)).trans (HC.out i hi)) (by omega) (by have := World.block_lt_of_cell? W ⟨b, off + 0, none⟩ (HC.out 0 Hlen.out); show b ≠ g; have h2 : b < W.heap.size := this; omega))
        (holds_row HO2.out (fun i hi => (mem_upto.1 hi).1)) hg (by rw [List.size_toArray]; have := upto_len ws ws.length; omega) (by rw [List.size_toArray]; exact H0.out)
      change Calls Try.prog 58 _ _ _ at hS
      obtain ⟨i, hi1, hi2, hi3, hi4⟩ := HP.out
      rw [hi1, List.size_toArray] at hS
      have HS := Lib.hid hS
      have HI : Hid (i % ws.length = i) := Nat.mod_eq_of_lt hi2
      have HE : Hid (IsEnd ws 1 (i : Int)) := .inr ⟨i, rfl, hi2, hi3, fun j hj hl => by
        rw [if_neg (by decide)]
        have := hi4 j hj hl
        rw [HI.out, Nat.mod_eq_of_lt hj] at this
        omega⟩
      clear hS hB hBc hb2 hi1 hi2 hi3 hi4
      go_wp2_with fail
      refine HS.out.mono ?_
      rintro r w3 ⟨rfl, hsw⟩
      have HY : Hid (Below W.heap.size W w3) := by obtain ⟨nn, os, rfl⟩ := hsw; exact below_sort HB2.out hgW
      clear hsw
      unfold encI
      rw [HI.out]
      go_wp2_with fail
      go_ret
      exact ⟨i, rfl, HE.out, HY.out⟩

end Go.Proofs.Yticphioeipbnmaa
