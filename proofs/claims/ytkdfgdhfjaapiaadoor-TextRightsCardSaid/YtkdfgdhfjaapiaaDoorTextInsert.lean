/-
  The contract of package text's Insert: for every place, every two strings of at most 100000 bytes. No other condition.
-/
import Derived.Test.YtkdfgdhfjaapiaaDoorTextLines
namespace Go.Proofs.YtkdfgdhfjaapiaaDoor
open Go.RowKit
set_option linter.unusedVariables false

/-- A text as the model holds it. -/
abbrev str (l : Bs) : Value := .string ⟨l.toArray⟩

/-- The opening: a builder and an iterator have come. -/
theorem hold_two {w w2 : World} {s : ByteArray} {L : List Bs} (hb : Below w.heap.size w w2) : Hold w ((w2.alloc (.cells #[.pointer none, .slice none 0 0] 45)).iter s 0)
    [tBld w.heap.size w2.heap.size (.pointer none) (.slice none 0 0) [], tIt w.heap.size (w2.heap.size + 1) s (off L 0)] := by
  have h1 := (Hold.nil hb).more (A := tBld w.heap.size w2.heap.size (.pointer none) (.slice none 0 0) []) (below_new (Below.refl _ _) (.cells #[.pointer none, .slice none 0 0] 45)) (tBld_ok _ _ _ _ _) (BAt.made w2 _ hb.size) (fun q hq => by rcases hq with rfl | hq; exact Nat.le_refl _; simp [Value.ownBlock] at hq)
  have h2 := h1.more (A := tIt w.heap.size (w2.heap.size + 1) s (off L 0)) (below_new (Below.refl _ _) _) (tIt_ok _ _ _ _) (by have := it_made (w2.alloc (.cells #[.pointer none, .slice none 0 0] 45)) w.heap.size (by have := hb.size; simp; omega) s L; simpa using this) (fun q hq => by cases hq; simp)
  exact h2

set_option maxHeartbeats 4000000 in
theorem insert_any (s t : ByteArray) (i : Int) (w : World) (hsn : s.size ≤ 100000) (htn : t.size ≤ 100000) (hT : Tabs w) :
    Calls Tryd.prog 11 #[.string s, .int .i64 i, .string t] w fun e w' => e = .returned (.tuple #[str (insS s.data.toList i t.data.toList).1, .int .i64 (insS s.data.toList i t.data.toList).2]) ∧ Below w.heap.size w w' := by
  have cs := fun (w : World) (hT : Tabs w) => right_any s w (by omega) hT
  have ct := fun (w : World) (hT : Tabs w) => right_any t w (by omega) hT
  cases hA : sg s.data.toList with
  | none =>
    have e : insS s.data.toList i t.data.toList = ([], 3) := by unfold insS; rw [hA]
    rw [e]
    simp only [hA, Option.isSome_none] at cs
    clear ct
    go_enter Tryd.func11, Tryd.ntmps11
    go_wp2_with (go_at_call 13; with_reducible refine (cs _ hT).mono ?_; rintro e w1 ⟨rfl, hb1⟩)
    go_wp2_with fail
    go_ret2
    exact ⟨rfl, hb1⟩
  | some A =>
    simp only [hA, Option.isSome_some] at cs
    cases hB : sg t.data.toList with
    | none =>
      have e : insS s.data.toList i t.data.toList = ([], 3) := by unfold insS; rw [hA, hB]
      rw [e]
      simp only [hB, Option.isSome_none] at ct
      go_enter Tryd.func11, Tryd.ntmps11
      go_wp2_with (first | (go_at_call 13; with_reducible refine (cs _ hT).mono ?_; rintro e w1 ⟨rfl, hb1⟩) | (go_at_call 13; refine (ct _ (hT.later hb1)).mono ?_; rintro e w2 ⟨rfl, hb2'⟩; have hb2 := below_step hb1 hb2'))
      go_ret2
      exact ⟨rfl, hb2⟩
    | some B =>
      simp only [hB, Option.isSome_some] at ct
      obtain ⟨aS, aF⟩ := (sg_iff _ _).1 hA
      obtain ⟨bS, bF⟩ := (sg_iff _ _).1 hB
      have hAn : A.length ≤ 100000 := by have := aS.le; rw [aF, size_list] at this; omega
      have hBn : B.length ≤ 100000 := by have := bS.le; rw [bF, size_list] at this; omega
      have cl := fun (w : World) => len_any aS s aF.symm (by omega) w
      have cm := fun (w : World) => len_any bS t bF.symm (by omega) w
      obtain ⟨R, hR⟩ : ∃ R, insS s.data.toList i t.data.toList = R := ⟨_, rfl⟩
      rw [hR]
      have hR' := hR
      unfold insS at hR'
      rw [hA, hB] at hR'
      change (if _ then _ else if _ then _ else _) = _ at hR'
      clear hA hB hR
      by_cases c0 : i < 0
      · rw [if_pos (Or.inl c0)] at hR'
        subst hR'
        go_enter Tryd.func11, Tryd.ntmps11
        go_wp2_with (first | (go_at_call 13; with_reducible refine (cs _ hT).mono ?_; rintro e w1 ⟨rfl, hb1⟩) | (go_at_call 13; refine (ct _ (hT.later hb1)).mono ?_; rintro e w2 ⟨rfl, hb2'⟩; have hb2 := below_step hb1 hb2') | (go_at_call 15; with_reducible refine (cl _).mono ?_; rintro e w3 ⟨rfl, hb3'⟩; have hb3 := below_step hb2 hb3'))
        go_ret2
        exact ⟨rfl, hb3⟩
      by_cases c1 : (A.length : Int) < i
      · rw [if_pos (Or.inr c1)] at hR'
        subst hR'
        go_enter Tryd.func11, Tryd.ntmps11
        go_wp2_with (first | (go_at_call 13; with_reducible refine (cs _ hT).mono ?_; rintro e w1 ⟨rfl, hb1⟩) | (go_at_call 13; refine (ct _ (hT.later hb1)).mono ?_; rintro e w2 ⟨rfl, hb2'⟩; have hb2 := below_step hb1 hb2') | (go_at_call 15; with_reducible refine (cl _).mono ?_; rintro e w3 ⟨rfl, hb3'⟩; have hb3 := below_step hb2 hb3'))
        go_ret2
        exact ⟨rfl, hb3⟩
      rw [if_neg (by omega)] at hR'
      by_cases c2 : 4000 < A.length + B.length
      · rw [if_pos c2] at hR'
        have c2' : (4000 : Int) < (A.length : Int) + (B.length : Int) := by omega
        subst hR'
        go_enter Tryd.func11, Tryd.ntmps11
        go_wp2_with (first | (go_at_call 13; with_reducible refine (cs _ hT).mono ?_; rintro e w1 ⟨rfl, hb1⟩) | (go_at_call 13; refine (ct _ (hT.later hb1)).mono ?_; rintro e w2 ⟨rfl, hb2'⟩; have hb2 := below_step hb1 hb2') | (go_at_call 15; with_reducible refine (cl _).mono ?_; rintro e w3 ⟨rfl, hb3'⟩; have hb3 := below_step hb2 hb3') | (go_at_call 15; refine (cm _).mono ?_; rintro e w4 ⟨rfl, hb4'⟩; have hb4 := below_step hb3 hb4'))
        go_ret2
        exact ⟨rfl, hb4⟩
      rw [if_neg c2] at hR'
      have c2' : ¬ ((4000 : Int) < (A.length : Int) + (B.length : Int)) := by omega
      obtain ⟨a, rfl⟩ : ∃ a : Nat, i = a := ⟨i.toNat, by omega⟩
      rw [Int.toNat_natCast] at hR'
      have han : a ≤ A.length := by omega
      obtain ⟨C, hC⟩ : ∃ C, (A.take a ++ (B ++ A.drop a)).flatten = C := ⟨_, rfl⟩
      rw [hC] at hR'
      subst hR'
      have HC := Lib.hid hC
      clear hC
      go_enter Tryd.func11, Tryd.ntmps11
      go_wp2_with (first | (go_at_call 13; with_reducible refine (cs _ hT).mono ?_; rintro e w1 ⟨rfl, hb1⟩) | (go_at_call 13; refine (ct _ (hT.later hb1)).mono ?_; rintro e w2 ⟨rfl, hb2'⟩; have hb2 := below_step hb1 hb2') | (go_at_call 15; with_reducible refine (cl _).mono ?_; rintro e w3 ⟨rfl, hb3'⟩; have hb3 := below_step hb2 hb3') | (go_at_call 15; refine (cm _).mono ?_; rintro e w4 ⟨rfl, hb4'⟩; have hb4 := below_step hb3 hb4'))
      have hFA : A.flatten.length ≤ 100000 := by rw [aF, size_list]; exact hsn
      have hFB : B.flatten.length ≤ 100000 := by rw [bF, size_list]; exact htn
      have HB4 := Lib.hid hb4
      have H2 := Lib.hid (hold_two (s := s) (L := A) hb4)
      clear cs ct cl cm hb1 hb2 hb2' hb3 hb3' hb4 hb4' hT c0 c1
      go_loopw [10] (fun iv wr => ∃ (k : Nat) (p v : Value), k ≤ A.length ∧ iv = .int .i64 k ∧ Hid (Hold w wr [tBld w.heap.size w4.heap.size p v (insC (A.take k) a B.flatten), tIt w.heap.size (w4.heap.size + 1) s (off A k)])) (fun iv _ => A.length - (RowKit.intOf iv).toNat)
      case atStart =>
        exact ⟨0, .pointer none, .slice none 0 0, Nat.zero_le _, rfl, Lib.hid (by rw [List.take_zero, insC_nil]; exact H2.out)⟩
      case round =>
        clear H2
        obtain ⟨k, p, v, hk, rfl, HH⟩ := hrel
        have hit := ((HH.out.has 1 _ rfl : _ ∧ _).1 : wr.heap[w4.heap.size + 1]? = _)
        have hMl : (A.take k).length = k := by rw [List.length_take]; omega
        have hcl : (insC (A.take k) a B.flatten).length ≤ 200000 := by
          have h1 := insC_len (A.take k) a B.flatten
          have h2 := take_len A k
          omega
        rcases Nat.lt_or_ge k A.length with hkl | hkl
        · have hnx := next_sign (P := Tryd.prog) aS aF.symm hkl hit
          have HH2 := Lib.hid (HH.out.next 1 rfl (off A (k + 1)))
          have hx := aS _ (List.getElem_mem hkl)
          have hx4 : A[k].length ≤ 100000 := by
            have h1 := off_succ A k hkl
            have h2 := off_le A (k + 1)
            omega
          clear HH hit
          by_cases hka : k = a
          · subst hka
            have hcont : insC (A.take (k + 1)) k B.flatten = insC (A.take k) k B.flatten ++ t.data.toList ++ A[k] := by rw [take_snoc hkl, insC_at hMl, bF]
            have hts : t.data.toList.length ≤ 100000 := by rw [size_list]; exact htn
            go_wp2_with (first
              | (go_at_call 18; refine (wstr_any w.heap.size w4.heap.size p v _ t _ (HH2.out.has 0 _ rfl) (by omega) HH2.out.size).mono ?_; rintro e w5 ⟨rfl, v5, hW5⟩; have HH5 := Lib.hid (HH2.out.wrote 0 rfl hW5); clear hW5)
              | (go_at_call 19; refine (wrune_any w.heap.size w4.heap.size _ v5 _ A[k] _ (HH5.out.has 0 _ rfl) hx (by rw [List.length_append]; omega) HH5.out.size).mono ?_; rintro e w6 ⟨rfl, v6, hW6⟩; rw [← hcont] at hW6; have HH6 := Lib.hid (HH5.out.wrote 0 rfl hW6); clear hW6))
            go_roundw
            case rel => exact ⟨k + 1, _, v6, hkl, by simp, HH6⟩
            case measure => simp only [RowKit.intOf]; omega
          · have hka' : ¬ ((k : Int) = (a : Int)) := by omega
            have hcont : insC (A.take (k + 1)) a B.flatten = insC (A.take k) a B.flatten ++ A[k] := by rw [take_snoc hkl, insC_other (by omega)]
            go_wp2_with (go_at_call 19; refine (wrune_any w.heap.size w4.heap.size p v _ A[k] _ (HH2.out.has 0 _ rfl) hx (by omega) HH2.out.size).mono ?_; rintro e w6 ⟨rfl, v6, hW6⟩; rw [← hcont] at hW6; have HH6 := Lib.hid (HH2.out.wrote 0 rfl hW6); clear hW6)
            go_roundw
            case rel => exact ⟨k + 1, _, v6, hkl, by simp, HH6⟩
            case measure => simp only [RowKit.intOf]; omega
        · obtain rfl : k = A.length := by omega
          have hnx := next_none (P := Tryd.prog) aF.symm hit
          rw [List.take_of_length_le (Nat.le_refl _)] at HH hcl
          clear hit
          by_cases hka : A.length = a
          · subst hka
            have hcont : insC A A.length B.flatten ++ t.data.toList = C := by rw [← HC.out, ← bF]; exact insC_last rfl
            go_wp2_with (first
              | (go_at_call 18; refine (wstr_any w.heap.size w4.heap.size p v _ t _ (HH.out.has 0 _ rfl) (by omega) HH.out.size).mono ?_; rintro e w5 ⟨rfl, v5, hW5⟩; rw [hcont] at hW5; have HH5 := Lib.hid (HH.out.wrote 0 rfl hW5); clear hW5)
              | (go_at_call 20; refine (bstr_any w.heap.size w4.heap.size _ v5 _ _ (HH5.out.has 0 _ rfl)).mono ?_; rintro e w6 ⟨rfl, hK⟩))
            go_ret2
            exact ⟨rfl, below_keep HH5.out.below hK HH5.out.size (fun i hi => ((tBld_ok _ _ _ _ _).lt _ i (HH5.out.has 0 _ rfl) (.inr hi)).1)⟩
          · have hka' : ¬ ((A.length : Int) = (a : Int)) := by omega
            have hcont : insC A a B.flatten = C := by rw [← HC.out]; exact insC_end (by omega)
            rw [hcont] at HH
            go_wp2_with (go_at_call 20; refine (bstr_any w.heap.size w4.heap.size _ v _ _ (HH.out.has 0 _ rfl)).mono ?_; rintro e w6 ⟨rfl, hK⟩)
            go_ret2
            exact ⟨rfl, below_keep HH.out.below hK HH.out.size (fun i hi => ((tBld_ok _ _ _ _ _).lt _ i (HH.out.has 0 _ rfl) (.inr hi)).1)⟩
end Go.Proofs.YtkdfgdhfjaapiaaDoor
