/-
  TextLines: newlines and tabs as signs, all else as it is: the walk. No condition.
-/
import Derived.Test.YtkdfgdhfjaapiaaDoorTextHead
namespace Go.Proofs.YtkdfgdhfjaapiaaDoor
open Go.RowKit
set_option linter.unusedVariables false

set_option maxHeartbeats 4000000 in
theorem walk_TextLines (a0 : ByteArray) (w : World) (w0 : a0.size ≤ maxLen) (hT : Tabs w) :
    Calls Tryd.prog 6 #[.string a0] w fun e w' => e = .returned (.bool true) ∧ Below w.heap.size w w' := by
  have cH := fun (W : World) (hb : Below w.heap.size w W) => head20_any W (hT.later hb)
  have hb := Below.refl w.heap.size w
  by_cases h0 : 300 < a0.size
  · have h0' : (300 : Int) < (a0.size : Int) := by omega
    go_enter Tryd.func6, Tryd.ntmps6
    go_wp2_with (first
      | (go_at_call 10; with_reducible refine (cH _ hb).mono ?_; rintro e w' ⟨rfl, hb'⟩; replace hb := below_step hb hb'; clear hb'))
    go_ret
    exact ⟨rfl, hb⟩
  have h0' : ¬ ((300 : Int) < (a0.size : Int)) := by omega
  have cR := fun (W : World) (hb : Below w.heap.size w W) => right_any a0 W (by omega) (hT.later hb)
  clear w0
  cases hA : sg a0.data.toList with
  | none =>
    simp only [hA, Option.isSome_none] at cR
    obtain ⟨L, r0, hL, e, hr0, hnb⟩ := sg_none hA
    have cS := fun (W : World) (hb : Below w.heap.size w W) => signs_none hL a0 e hr0 hnb (by omega) W (hT.later hb)
    clear e
    go_enter Tryd.func6, Tryd.ntmps6
    go_wp2_with (first
      | (go_at_call 10; with_reducible refine (cH _ hb).mono ?_; rintro e w' ⟨rfl, hb'⟩; replace hb := below_step hb hb'; clear hb')
      | (go_at_call 12; with_reducible refine (cS _ hb).mono ?_; rintro e w' ⟨rfl, hb'⟩; replace hb := below_step hb hb'; clear hb')
      | (go_at_call 13; with_reducible refine (cR _ hb).mono ?_; rintro e w' ⟨rfl, hb'⟩; replace hb := below_step hb hb'; clear hb'))
    go_ret
    exact ⟨rfl, hb⟩
  | some L =>
    simp only [hA, Option.isSome_some] at cR
    obtain ⟨hL, e⟩ := (sg_iff _ _).1 hA
    have cS := fun (W : World) (hb : Below w.heap.size w W) => signs_some hL a0 e.symm (by omega) W (hT.later hb)
    have hLn : L.length ≤ 300 := by have := hL.le; rw [e, size_list] at this; omega
    have hFn : L.flatten.length ≤ 300 := by rw [e, size_list]; omega
    have hln := lines_len L
    have cN := fun (W : World) (hb : Below w.heap.size w W) => lines_any hL a0 e.symm (by omega) W
    clear hA
    go_enter Tryd.func6, Tryd.ntmps6
    go_wp2_with (first
      | (go_at_call 10; with_reducible refine (cH _ hb).mono ?_; rintro e w' ⟨rfl, hb'⟩; replace hb := below_step hb hb'; clear hb')
      | (go_at_call 12; with_reducible refine (cS _ hb).mono ?_; rintro e w' ⟨A, c, rfl, hR, hb'⟩; replace hb := below_step hb hb'; clear hb'))
    have HR := Lib.hid hR
    obtain ⟨wS, hwS⟩ : ∃ wS, w' = wS := ⟨_, rfl⟩
    subst hwS
    clear cS cH hR
    go_loopw [5, 25] (fun sv iv wr => ∃ (j : Nat) (t : ByteArray), j ≤ L.length ∧ iv = .int .i64 j ∧ sv = .string t ∧ Hid (t.data.toList = ((L.map lineS).take j).flatten) ∧ Below w'.heap.size w' wr) (fun _ iv _ => L.length - (RowKit.intOf iv).toNat)
    case atStart => exact ⟨0, .empty, Nat.zero_le _, rfl, rfl, Lib.hid rfl, Below.refl _ _⟩
    case round =>
      obtain ⟨j, t, hj, rfl, rfl, ht, hb2⟩ := hrel
      have hlt : (((L.map lineS).take j).flatten).length ≤ 1000 := by have := off_le (L.map lineS) j; unfold off at this; omega
      have hts : t.size ≤ 1000 := by rw [← size_list, ht.out]; omega
      rcases Nat.lt_or_ge j L.length with hjl | hjl
      · obtain ⟨g, o, rfl, hc0⟩ := HR.out.is j L[j] (List.getElem?_eq_getElem hjl)
        have hc : wr.cell? ⟨g, o + j, none⟩ = some (str L[j]) := (Keep.of_below (T := fun _ => False) hb2).cell hc0 (fun h => h)
        have hjl' : (j : Int) < (L.length : Int) := by omega
        obtain ⟨x, hx⟩ : ∃ x : ByteArray, (⟨L[j].toArray⟩ : ByteArray) = x := ⟨_, rfl⟩
        have hxl : x.data.toList = L[j] := by rw [← hx]
        have hxs : x.size ≤ 1000 := by
          have h1 := off_succ L j hjl
          have h2 := off_le L (j + 1)
          rw [← size_list, hxl]; omega
        have hsn : ((L.map lineS).take (j + 1)).flatten = ((L.map lineS).take j).flatten ++ lineS L[j] := by
          rw [List.take_succ_eq_append_getElem (by rw [List.length_map]; exact hjl), List.getElem_map, flat_snoc]
        have HS := Lib.hid hsn
        rw [show str L[j] = .string x from congrArg Value.string hx] at hc
        have h10 : x = ⟨#[10]⟩ ↔ L[j] = [10] := ⟨fun e => by rw [← hxl, e], fun e => by rw [← hx, e]⟩
        have h09 : x = ⟨#[9]⟩ ↔ L[j] = [9] := ⟨fun e => by rw [← hxl, e], fun e => by rw [← hx, e]⟩
        have HX := Lib.hid hxl
        clear hx hc0 hxl hsn
        by_cases c10 : L[j] = [10]
        · have hli : lineS L[j] = [226, 143, 142] := by unfold lineS; rw [if_pos c10]
          have hxe := h10.2 c10
          subst hxe
          rw [hli] at HS
          clear h10 h09 hli HX
          go_wp2_with fail
          go_roundw
          case rel => exact ⟨j + 1, _, hjl, by simp, rfl, Lib.hid (by rw [app_list, ht.out, HS.out]), hb2⟩
          case measure => simp only [RowKit.intOf]; omega
        by_cases c09 : L[j] = [9]
        · have hli : lineS L[j] = [226, 135, 165] := by unfold lineS; rw [if_neg c10, if_pos c09]
          have hxe := h09.2 c09
          subst hxe
          rw [hli] at HS
          clear h10 h09 hli HX
          go_wp2_with fail
          go_roundw
          case rel => exact ⟨j + 1, _, hjl, by simp, rfl, Lib.hid (by rw [app_list, ht.out, HS.out]), hb2⟩
          case measure => simp only [RowKit.intOf]; omega
        have hli : lineS L[j] = L[j] := by unfold lineS; rw [if_neg c10, if_neg c09]
        have n10 : (x.toList == [10]) = false := by rw [Lib.toList_data, HX.out]; simpa using c10
        have n09 : (x.toList == [9]) = false := by rw [Lib.toList_data, HX.out]; simpa using c09
        rw [hli] at HS
        clear h10 h09 hli c10 c09
        go_wp2_with fail
        go_roundw
        case rel => exact ⟨j + 1, _, hjl, by simp, rfl, Lib.hid (by rw [app_list, ht.out, HX.out, HS.out]), hb2⟩
        case measure => simp only [RowKit.intOf]; omega
      · obtain rfl : j = L.length := by omega
        have hjl' : ¬ ((L.length : Int) < (L.length : Int)) := by omega
        replace hb := below_step hb hb2
        have htl : t.data.toList = (L.map lineS).flatten := by rw [ht.out, List.take_of_length_le (by rw [List.length_map]; exact Nat.le_refl _)]
        have cL := fun (W : World) (hb : Below w.heap.size w W) => len_any (lines_sg hL) t htl (by omega) W
        simp only [← htl, List.length_map] at cN cL
        clear HR hb2 ht htl hlt
        go_wp2_with (first
          | (go_at_call 17; with_reducible refine (cN _ hb).mono ?_; rintro e w' ⟨rfl, hb'⟩; replace hb := below_step hb hb'; clear hb')
          | (go_at_call 13; with_reducible refine (cR _ hb).mono ?_; rintro e w' ⟨rfl, hb'⟩; replace hb := below_step hb hb'; clear hb')
          | (go_at_call 15; with_reducible refine (cL _ hb).mono ?_; rintro e w' ⟨rfl, hb'⟩; replace hb := below_step hb hb'; clear hb'))
        go_ret
        exact ⟨rfl, hb⟩
end Go.Proofs.YtkdfgdhfjaapiaaDoor
