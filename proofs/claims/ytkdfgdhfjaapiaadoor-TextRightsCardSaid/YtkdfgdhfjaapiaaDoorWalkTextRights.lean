/-
  TextRights: texts of signs side by side are one; one that isn't makes all of them none: the walk. No condition.
-/
import Derived.Test.YtkdfgdhfjaapiaaDoorTextHead
import Derived.Test.YtkdfgdhfjaapiaaDoorBarPure
import Derived.Test.YtkdfgdhfjaapiaaDoorFlat
namespace Go.Proofs.YtkdfgdhfjaapiaaDoor
open Go.RowKit
set_option linter.unusedVariables false

theorem rows_str {w : World} {a0 : Option Addr} {len cap : Nat} (h : IsRows w [.inr false] a0 len cap) :
    ∃ b off, ∃ X : Nat → ByteArray, ∀ i, i < len → a0 = some ⟨b, off, none⟩ ∧ b < w.heap.size ∧ w.cell? ⟨b, off + i, none⟩ = some (.string (X i)) ∧ (X i).size ≤ maxLen := by
  obtain ⟨h1, h2, h3, h4, h5⟩ := h
  rcases Nat.eq_zero_or_pos len with h0 | hl
  · exact ⟨0, 0, fun _ => .empty, fun i hi => by omega⟩
  obtain ⟨b, off, rfl⟩ := h4 hl
  have hx : ∀ i, ∃ x : ByteArray, i < len → w.cell? ⟨b, off + i, none⟩ = some (.string x) ∧ x.size ≤ maxLen := by
    intro i
    by_cases hi : i < len
    · obtain ⟨cs, hf, hc⟩ := h5 b off rfl i hi
      obtain ⟨c0, l0, rfl, r0, f0⟩ := fit_cons hf
      obtain ⟨x0, rfl, g0⟩ := r0
      have := hc 0 _ rfl
      simp only [List.length_cons, List.length_nil, Nat.zero_add, Nat.mul_one, Nat.add_zero] at this
      exact ⟨x0, fun _ => ⟨this, g0⟩⟩
    · exact ⟨.empty, fun h => absurd h hi⟩
  obtain ⟨X, hX⟩ := Classical.axiomOfChoice hx
  exact ⟨b, off, X, fun i hi => ⟨rfl, World.block_lt_of_cell? w ⟨b, off + i, none⟩ (hX i hi).1, hX i hi⟩⟩
/-- The first texts. -/
def txs (X : Nat → ByteArray) (j : Nat) : List Bs := (List.range j).map fun i => (X i).data.toList
theorem txs_succ (X : Nat → ByteArray) (j : Nat) : txs X (j + 1) = txs X j ++ [(X j).data.toList] := by unfold txs; rw [List.range_succ, List.map_append]; rfl
theorem txs_length (X : Nat → ByteArray) (j : Nat) : (txs X j).length = j := by unfold txs; simp
theorem txs_le {X : Nat → ByteArray} {j b : Nat} (h : ∀ i, i < j → (X i).size ≤ b) : ∀ x ∈ txs X j, x.length ≤ b := by
  intro x hx
  obtain ⟨i, hi, rfl⟩ := List.mem_map.1 hx
  rw [size_list]
  exact h i (List.mem_range.1 hi)

set_option maxHeartbeats 4000000 in
theorem walk_TextRights (a0 : Option Addr) (len0 cap0 : Nat) (w : World) (w0 : IsRows w [.inr false] a0 len0 cap0) (hT : Tabs w) :
    Calls Tryd.prog 9 #[.slice a0 len0 cap0] w fun e w' => e = .returned (.bool true) ∧ Below w.heap.size w w' := by
  have cH := fun (W : World) (hb : Below w.heap.size w W) => head20_any W (hT.later hb)
  have hb := Below.refl w.heap.size w
  by_cases h0 : 20 < len0
  · have h0' : (20 : Int) < (len0 : Int) := by omega
    go_enter Tryd.func9, Tryd.ntmps9
    go_wp2_with (first
      | (go_at_call 10; with_reducible refine (cH _ hb).mono ?_; rintro e w' ⟨rfl, hb'⟩; replace hb := below_step hb hb'; clear hb'))
    go_ret
    exact ⟨rfl, hb⟩
  have h0' : ¬ ((20 : Int) < (len0 : Int)) := by omega
  obtain ⟨b, off, X, hX⟩ := rows_str w0
  clear w0
  go_enter Tryd.func9, Tryd.ntmps9
  go_wp2_with (first
    | (go_at_call 10; with_reducible refine (cH _ hb).mono ?_; rintro e w' ⟨rfl, hb'⟩; replace hb := below_step hb hb'; clear hb'))
  have HB := Lib.hid hb
  clear hb cH
  go_loopw [3, 4, 5, 17] (fun sv rv nv iv wr => ∃ (j : Nat) (t : ByteArray) (R : Bool) (N : Nat), j ≤ len0 ∧ iv = .int .i64 j ∧ sv = .string t ∧ rv = .bool R ∧ nv = .int .i64 N ∧ Hid (R = barR (txs X j)) ∧ Hid (N = barN (txs X j)) ∧ Hid (t.data.toList = barL (txs X j)) ∧ Hid (∀ i, i < j → (X i).size ≤ 100) ∧ Hid (Below w.heap.size w wr)) (fun _ _ _ iv _ => len0 - (RowKit.intOf iv).toNat)
  case atStart => exact ⟨0, .empty, true, 0, Nat.zero_le _, rfl, rfl, rfl, rfl, Lib.hid rfl, Lib.hid rfl, Lib.hid rfl, Lib.hid (fun i hi => by omega), HB⟩
  case round =>
    clear HB
    obtain ⟨j, t, R, N, hj, rfl, rfl, rfl, rfl, hR, hN, ht, hS, hB⟩ := hrel
    have hb := hB.out
    have hxs := txs_le hS.out
    have h1 := barL_len _ _ hxs
    have h2 := barN_len _ _ hxs
    rw [txs_length] at h1 h2
    have hts : t.size ≤ 3000 := by rw [← size_list, ht.out]; omega
    have hNs : N ≤ 2000 := by rw [hN.out]; omega
    clear hxs h1 h2
    rcases Nat.lt_or_ge j len0 with hjl | hjl
    · have hjl' : (j : Int) < (len0 : Int) := by omega
      obtain ⟨rfl, hbl, hc0, hwf⟩ := hX j hjl
      have hc : wr.cell? ⟨b, off + j, none⟩ = some (.string (X j)) := (Keep.of_below (T := fun _ => False) (hb.mono (Nat.le_refl _))).cell hc0 (fun h => h)
      obtain ⟨s, hs⟩ : ∃ s, X j = s := ⟨_, rfl⟩
      rw [hs] at hc
      by_cases h100 : 100 < s.size
      · have h100' : (100 : Int) < (s.size : Int) := by omega
        go_wp2_with fail
        go_ret
        exact ⟨rfl, hb⟩
      have h100' : ¬ ((100 : Int) < (s.size : Int)) := by omega
      have hS2 : Hid (∀ i, i < j + 1 → (X i).size ≤ 100) := Lib.hid (fun i hi => by
        rcases (by omega : i < j ∨ i = j) with h | h
        · exact hS.out i h
        · subst h; rw [hs]; omega)
      have hL2 : Hid (barL (txs X (j + 1)) = t.data.toList ++ s.data.toList ++ [124]) := Lib.hid (by rw [txs_succ, barL_snoc, ht.out, hs])
      have hN2 : barN (txs X (j + 1)) = N + lenS s.data.toList := by rw [txs_succ, barN_snoc, hN.out, hs]
      have hR2 : barR (txs X (j + 1)) = (R && (sg s.data.toList).isSome) := by rw [txs_succ, barR_snoc, hR.out, hs]
      have cR := fun (W : World) (hb : Below w.heap.size w W) => right_any s W (by omega) (hT.later hb)
      clear hc0 hS hR hN
      cases hA : sg s.data.toList with
      | none =>
        simp only [hA, Option.isSome_none] at cR hR2
        obtain ⟨LA, rA, lA, eA, zA, nA⟩ := sg_none hA
        have cS := fun (W : World) (hb : Below w.heap.size w W) => signs_none lA s eA zA nA (by omega) W (hT.later hb)
        have hl0 : lenS s.data.toList = 0 := by unfold lenS; rw [hA]; rfl
        have HN2 : Hid (N = barN (txs X (j + 1))) := Lib.hid (by omega)
        have HR2 : Hid (false = barR (txs X (j + 1))) := Lib.hid (by rw [hR2, Bool.and_false])
        clear hA eA hN2 hR2 hl0
        cases R with
        | false =>
          go_wp2_with (first
            | (go_at_call 12; with_reducible refine (cS _ hb).mono ?_; rintro e w' ⟨rfl, hb'⟩; replace hb := below_step hb hb'; clear hb')
            | (go_at_call 13; with_reducible refine (cR _ hb).mono ?_; rintro e w' ⟨rfl, hb'⟩; replace hb := below_step hb hb'; clear hb'))
          go_roundw
          case rel => exact ⟨j + 1, _, _, N, hjl, by simp, rfl, rfl, by simp, HR2, HN2, Lib.hid (by rw [app_list, app_list, hL2.out]), hS2, Lib.hid hb⟩
          case measure => simp only [RowKit.intOf]; omega
        | true =>
          go_wp2_with (first
            | (go_at_call 12; with_reducible refine (cS _ hb).mono ?_; rintro e w' ⟨rfl, hb'⟩; replace hb := below_step hb hb'; clear hb')
            | (go_at_call 13; with_reducible refine (cR _ hb).mono ?_; rintro e w' ⟨rfl, hb'⟩; replace hb := below_step hb hb'; clear hb'))
          go_roundw
          case rel => exact ⟨j + 1, _, _, N, hjl, by simp, rfl, rfl, by simp, HR2, HN2, Lib.hid (by rw [app_list, app_list, hL2.out]), hS2, Lib.hid hb⟩
          case measure => simp only [RowKit.intOf]; omega
      | some A =>
        simp only [hA, Option.isSome_some] at cR hR2
        obtain ⟨lA, eA⟩ := (sg_iff _ _).1 hA
        have cS := fun (W : World) (hb : Below w.heap.size w W) => signs_some lA s eA.symm (by omega) W (hT.later hb)
        have hl0 : lenS s.data.toList = A.length := by unfold lenS; rw [hA]; rfl
        have hAl : A.length ≤ 100 := by have := lA.le; rw [eA, size_list] at this; omega
        have HN2 : Hid (N + A.length = barN (txs X (j + 1))) := Lib.hid (by omega)
        have HR2 : Hid (R = barR (txs X (j + 1))) := Lib.hid (by rw [hR2, Bool.and_true])
        clear hA eA hN2 hR2 hl0
        cases R with
        | false =>
          go_wp2_with (first
            | (go_at_call 12; with_reducible refine (cS _ hb).mono ?_; rintro e w' ⟨A0, c0, rfl, hR0, hb'⟩; replace hb := below_step hb hb'; clear hb'; clear hR0)
            | (go_at_call 13; with_reducible refine (cR _ hb).mono ?_; rintro e w' ⟨rfl, hb'⟩; replace hb := below_step hb hb'; clear hb'))
          go_roundw
          case rel => exact ⟨j + 1, _, _, N + A.length, hjl, by simp, rfl, rfl, by simp, HR2, HN2, Lib.hid (by rw [app_list, app_list, hL2.out]), hS2, Lib.hid hb⟩
          case measure => simp only [RowKit.intOf]; omega
        | true =>
          go_wp2_with (first
            | (go_at_call 12; with_reducible refine (cS _ hb).mono ?_; rintro e w' ⟨A0, c0, rfl, hR0, hb'⟩; replace hb := below_step hb hb'; clear hb'; clear hR0)
            | (go_at_call 13; with_reducible refine (cR _ hb).mono ?_; rintro e w' ⟨rfl, hb'⟩; replace hb := below_step hb hb'; clear hb'))
          go_roundw
          case rel => exact ⟨j + 1, _, _, N + A.length, hjl, by simp, rfl, rfl, by simp, HR2, HN2, Lib.hid (by rw [app_list, app_list, hL2.out]), hS2, Lib.hid hb⟩
          case measure => simp only [RowKit.intOf]; omega
    · obtain rfl : j = len0 := by omega
      have hjl' : ¬ ((j : Int) < (j : Int)) := by omega
      have hbar := bar_sg (txs X j)
      rw [← ht.out, ← hR.out, ← hN.out, txs_length] at hbar
      have cR := fun (W : World) (hb : Below w.heap.size w W) => right_any t W (by omega) (hT.later hb)
      clear hR hN ht hS hB hX hj hjl
      cases R with
      | false =>
        have e := hbar.1 rfl
        simp only [e, Option.isSome_none] at cR
        clear hbar e
        go_wp2_with (first | (go_at_call 13; with_reducible refine (cR _ hb).mono ?_; rintro e w' ⟨rfl, hb'⟩; replace hb := below_step hb hb'; clear hb'))
        go_ret
        exact ⟨rfl, hb⟩
      | true =>
        obtain ⟨L, e, hl⟩ := hbar.2 rfl
        simp only [e, Option.isSome_some] at cR
        obtain ⟨lL, eL⟩ := (sg_iff _ _).1 e
        have cL := fun (W : World) (hb : Below w.heap.size w W) => len_any lL t eL.symm (by omega) W
        simp only [hl, Int.natCast_add] at cL
        clear hbar e eL hl
        go_wp2_with (first | (go_at_call 13; with_reducible refine (cR _ hb).mono ?_; rintro e w' ⟨rfl, hb'⟩; replace hb := below_step hb hb'; clear hb') | (go_at_call 15; with_reducible refine (cL _ hb).mono ?_; rintro e w' ⟨rfl, hb'⟩; replace hb := below_step hb hb'; clear hb'))
        go_ret
        exact ⟨rfl, hb⟩
end Go.Proofs.YtkdfgdhfjaapiaaDoor
