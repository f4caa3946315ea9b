/-
  The contract of package text's Cut: for every place and count, every string of at most 100000 bytes. No other condition.
-/
import Derived.Test.YtkdfgdhfjaapiaaDoorTextInsert
namespace Go.Proofs.YtkdfgdhfjaapiaaDoor
open Go.RowKit
set_option linter.unusedVariables false

/-- The opening: two builders and an iterator have come. -/
theorem hold_three {w w2 : World} {s : ByteArray} {L : List Bs} (hb : Below w.heap.size w w2) : Hold w (((w2.alloc (.cells #[.pointer none, .slice none 0 0] 45)).alloc (.cells #[.pointer none, .slice none 0 0] 45)).iter s 0)
    [tBld w.heap.size w2.heap.size (.pointer none) (.slice none 0 0) [], tBld w.heap.size (w2.heap.size + 1) (.pointer none) (.slice none 0 0) [], tIt w.heap.size (w2.heap.size + 2) s (off L 0)] := by
  have hs := hb.size
  have h1 := (Hold.nil hb).more (A := tBld w.heap.size w2.heap.size (.pointer none) (.slice none 0 0) []) (below_new (Below.refl _ _) (.cells #[.pointer none, .slice none 0 0] 45)) (tBld_ok _ _ _ _ _) (BAt.made w2 _ hb.size) (fun q hq => by rcases hq with rfl | hq; exact Nat.le_refl _; simp [Value.ownBlock] at hq)
  obtain ⟨W1, hW1⟩ : ∃ W1, w2.alloc (.cells #[.pointer none, .slice none 0 0] 45) = W1 := ⟨_, rfl⟩
  have e1 : W1.heap.size = w2.heap.size + 1 := by rw [← hW1]; simp
  rw [hW1] at h1 ⊢
  have h2 := h1.more (A := tBld w.heap.size (w2.heap.size + 1) (.pointer none) (.slice none 0 0) []) (below_new (Below.refl _ _) (.cells #[.pointer none, .slice none 0 0] 45)) (tBld_ok _ _ _ _ _) (by rw [← e1]; exact BAt.made W1 _ (by omega)) (fun q hq => by rcases hq with rfl | hq; omega; simp [Value.ownBlock] at hq)
  obtain ⟨W2, hW2⟩ : ∃ W2, W1.alloc (.cells #[.pointer none, .slice none 0 0] 45) = W2 := ⟨_, rfl⟩
  have e2 : W2.heap.size = w2.heap.size + 2 := by rw [← hW2]; simp; omega
  rw [hW2] at h2 ⊢
  have h3 := h2.more (A := tIt w.heap.size (w2.heap.size + 2) s (off L 0)) (below_new (Below.refl _ _) _) (tIt_ok _ _ _ _) (by rw [← e2]; exact it_made W2 w.heap.size (by omega) s L) (fun q hq => by cases hq; omega)
  exact h3

set_option maxHeartbeats 4000000 in
theorem cut_any (s : ByteArray) (i n : Int) (w : World) (hsn : s.size ≤ 100000) (hi : i ≤ 9223372036854775807) (hT : Tabs w) :
    Calls Tryd.prog 16 #[.string s, .int .i64 i, .int .i64 n] w fun e w' => e = .returned (.tuple #[str (cutS s.data.toList i n).1, str (cutS s.data.toList i n).2.1, .int .i64 (cutS s.data.toList i n).2.2]) ∧ Below w.heap.size w w' := by
  have cs := right_any s w (by omega) hT
  cases hA : sg s.data.toList with
  | none =>
    have e : cutS s.data.toList i n = ([], [], 3) := by unfold cutS; rw [hA]
    rw [e]
    simp only [hA, Option.isSome_none] at cs
    go_enter Tryd.func16, Tryd.ntmps16
    go_wp2_with (go_at_call 13; refine cs.mono ?_; rintro e w1 ⟨rfl, hb1⟩)
    go_ret3
    exact ⟨rfl, hb1⟩
  | some A =>
    simp only [hA, Option.isSome_some] at cs
    obtain ⟨aS, aF⟩ := (sg_iff _ _).1 hA
    have hAn : A.length ≤ 100000 := by have := aS.le; rw [aF, size_list] at this; omega
    have cl := fun (w : World) => len_any aS s aF.symm (by omega) w
    obtain ⟨R, hR⟩ : ∃ R, cutS s.data.toList i n = R := ⟨_, rfl⟩
    rw [hR]
    have hR' := hR
    unfold cutS at hR'
    rw [hA] at hR'
    change (if _ then _ else _) = _ at hR'
    clear hA hR
    by_cases c0 : i < 0
    · rw [if_pos (Or.inl c0)] at hR'
      subst hR'
      go_enter Tryd.func16, Tryd.ntmps16
      go_wp2_with (go_at_call 13; refine cs.mono ?_; rintro e w1 ⟨rfl, hb1⟩)
      go_ret3
      exact ⟨rfl, hb1⟩
    by_cases c1 : n < 0
    · rw [if_pos (Or.inr (Or.inl c1))] at hR'
      subst hR'
      go_enter Tryd.func16, Tryd.ntmps16
      go_wp2_with (go_at_call 13; refine cs.mono ?_; rintro e w1 ⟨rfl, hb1⟩)
      go_ret3
      exact ⟨rfl, hb1⟩
    by_cases c2 : (A.length : Int) - i < n
    · rw [if_pos (Or.inr (Or.inr (Or.inr c2)))] at hR'
      subst hR'
      go_enter Tryd.func16, Tryd.ntmps16
      go_wp2_with (first | (go_at_call 13; refine cs.mono ?_; rintro e w1 ⟨rfl, hb1⟩) | (go_at_call 15; refine (cl _).mono ?_; rintro e w3 ⟨rfl, hb3'⟩; have hb3 := below_step hb1 hb3'))
      go_ret3
      exact ⟨rfl, hb3⟩
    rw [if_neg (by omega)] at hR'
    obtain ⟨a, rfl⟩ : ∃ a : Nat, i = a := ⟨i.toNat, by omega⟩
    obtain ⟨m, rfl⟩ : ∃ m : Nat, n = m := ⟨n.toNat, by omega⟩
    rw [Int.toNat_natCast, Int.toNat_natCast] at hR'
    have ham : a + m ≤ A.length := by omega
    obtain ⟨C, hC⟩ : ∃ C, (A.take a ++ A.drop (a + m)).flatten = C := ⟨_, rfl⟩
    obtain ⟨D, hD⟩ : ∃ D, ((A.drop a).take m).flatten = D := ⟨_, rfl⟩
    rw [hC, hD] at hR'
    subst hR'
    have HC := Lib.hid hC
    have HD := Lib.hid hD
    clear hC hD
    have hFA : A.flatten.length ≤ 100000 := by rw [aF, size_list]; exact hsn
    go_enter Tryd.func16, Tryd.ntmps16
    go_wp2_with (first | (go_at_call 13; refine cs.mono ?_; rintro e w1 ⟨rfl, hb1⟩) | (go_at_call 15; refine (cl _).mono ?_; rintro e w4 ⟨rfl, hb3'⟩; have hb4 := below_step hb1 hb3'))
    have H2 := Lib.hid (hold_three (s := s) (L := A) hb4)
    clear cs cl hb1 hb3' hb4 hT c0 c1 c2
    go_loopw [11] (fun iv wr => ∃ (k : Nat) (p v p' v' : Value), k ≤ A.length ∧ iv = .int .i64 k ∧ Hid (Hold w wr [tBld w.heap.size w4.heap.size p v (lefC (A.take k) a m), tBld w.heap.size (w4.heap.size + 1) p' v' (outC (A.take k) a m), tIt w.heap.size (w4.heap.size + 2) s (off A k)])) (fun iv _ => A.length - (RowKit.intOf iv).toNat)
    case atStart =>
      exact ⟨0, .pointer none, .slice none 0 0, .pointer none, .slice none 0 0, Nat.zero_le _, rfl, Lib.hid (by have := H2.out; simpa [lefC, outC] using this)⟩
    case round =>
      clear H2
      obtain ⟨k, p, v, p', v', hk, rfl, HH⟩ := hrel
      have hit := ((HH.out.has 2 _ rfl : _ ∧ _).1 : wr.heap[w4.heap.size + 2]? = _)
      have hMl : (A.take k).length = k := by rw [List.length_take]; omega
      have hcl : (lefC (A.take k) a m).length ≤ 200000 := by
        have h1 := lefC_len (A.take k) a m
        have h2 := take_len A k
        omega
      have hcl' : (outC (A.take k) a m).length ≤ 200000 := by
        have h1 := outC_len (A.take k) a m
        have h2 := take_len A k
        omega
      rcases Nat.lt_or_ge k A.length with hkl | hkl
      · have hnx := next_sign (P := Tryd.prog) aS aF.symm hkl hit
        have HH2 := Lib.hid (HH.out.next 2 rfl (off A (k + 1)))
        have hx := aS _ (List.getElem_mem hkl)
        clear HH hit
        have three : k < a ∨ (a ≤ k ∧ k < a + m) ∨ a + m ≤ k := by omega
        rcases three with c | ⟨c, d⟩ | c
        · obtain ⟨e1, e2⟩ := lefC_in (M := A.take k) (a := a) (m := m) (x := A[k]) (by omega)
          rw [← take_snoc hkl] at e1 e2
          have c' : (k : Int) < (a : Int) := by omega
          go_wp2_with (go_at_call 19; refine (wrune_any w.heap.size w4.heap.size p v _ A[k] _ (HH2.out.has 0 _ rfl) hx (by omega) HH2.out.size).mono ?_; rintro e w6 ⟨rfl, v6, hW6⟩; rw [← e1] at hW6; have HH6 := Lib.hid (HH2.out.wrote 0 rfl hW6); clear hW6)
          go_roundw
          case rel => exact ⟨k + 1, _, v6, _, _, hkl, by simp, by rw [e2]; exact HH6⟩
          case measure => simp only [RowKit.intOf]; omega
        · obtain ⟨e1, e2⟩ := outC_in (M := A.take k) (a := a) (m := m) (x := A[k]) (by omega) (by omega)
          rw [← take_snoc hkl] at e1 e2
          have c' : ¬ ((k : Int) < (a : Int)) := by omega
          have d' : ¬ ((a : Int) + (m : Int) ≤ (k : Int)) := by omega
          go_wp2_with (go_at_call 19; refine (wrune_any w.heap.size (w4.heap.size + 1) p' v' _ A[k] _ (HH2.out.has 1 _ rfl) hx (by omega) HH2.out.size).mono ?_; rintro e w6 ⟨rfl, v6, hW6⟩; rw [← e2] at hW6; have HH6 := Lib.hid (HH2.out.wrote 1 rfl hW6); clear hW6)
          go_roundw
          case rel => exact ⟨k + 1, _, _, _, v6, hkl, by simp, by rw [e1]; exact HH6⟩
          case measure => simp only [RowKit.intOf]; omega
        · obtain ⟨e1, e2⟩ := lefC_in (M := A.take k) (a := a) (m := m) (x := A[k]) (by omega)
          rw [← take_snoc hkl] at e1 e2
          have c' : ¬ ((k : Int) < (a : Int)) := by omega
          have d' : (a : Int) + (m : Int) ≤ (k : Int) := by omega
          go_wp2_with (go_at_call 19; refine (wrune_any w.heap.size w4.heap.size p v _ A[k] _ (HH2.out.has 0 _ rfl) hx (by omega) HH2.out.size).mono ?_; rintro e w6 ⟨rfl, v6, hW6⟩; rw [← e1] at hW6; have HH6 := Lib.hid (HH2.out.wrote 0 rfl hW6); clear hW6)
          go_roundw
          case rel => exact ⟨k + 1, _, v6, _, _, hkl, by simp, by rw [e2]; exact HH6⟩
          case measure => simp only [RowKit.intOf]; omega
      · obtain rfl : k = A.length := by omega
        have hnx := next_none (P := Tryd.prog) aF.symm hit
        have e1 : lefC (A.take A.length) a m = C := by rw [List.take_of_length_le (Nat.le_refl _)]; exact HC.out
        have e2 : outC (A.take A.length) a m = D := by rw [List.take_of_length_le (Nat.le_refl _)]; exact HD.out
        rw [e1, e2] at HH
        clear hit hcl hcl' e1 e2
        have cS := bstr_any w.heap.size w4.heap.size p v _ _ (HH.out.has 0 _ rfl)
        go_wp2_with (go_at_call 20; refine cS.mono ?_)
        rintro e w6 ⟨rfl, hK⟩
        have hO := (HH.out.ok 1 _ rfl).keep _ _ _ (HH.out.has 1 _ rfl) hK (fun q hq hn => HH.out.apart 1 0 _ _ rfl rfl (by decide) q hq (.inr hn))
        have HO := Lib.hid hO
        clear hO
        go_wp2_with (go_at_call 20; refine (bstr_any w.heap.size (w4.heap.size + 1) p' v' D w6 HO.out).mono ?_)
        rintro e w7 ⟨rfl, hK'⟩
        go_wp2_with fail
        go_ret3
        refine ⟨rfl, ?_⟩
        have h1 := below_keep HH.out.below hK HH.out.size (fun i hi => ((tBld_ok _ _ _ _ _).lt _ i (HH.out.has 0 _ rfl) (.inr hi)).1)
        exact below_keep h1 hK' h1.size (fun i hi => ((tBld_ok _ _ _ _ _).lt _ i HO.out (.inr hi)).1)
end Go.Proofs.YtkdfgdhfjaapiaaDoor
