/-
  TextFull: as many signs as there may be, and more: the walk. No condition.
-/
import Derived.Test.YtkdfgdhfjaapiaaDoorTextHead
import Derived.Test.YtkdfgdhfjaapiaaDoorBits
namespace Go.Proofs.YtkdfgdhfjaapiaaDoor
open Go.RowKit
set_option linter.unusedVariables false

/-- So many times one sign. -/
def rep (x : Bs) (n : Nat) : Bs := (List.replicate n x).flatten
theorem rep_succ (x : Bs) (n : Nat) : rep x (n + 1) = rep x n ++ x := by unfold rep; rw [List.replicate_succ', flat_snoc]
theorem rep_len (x : Bs) (n : Nat) : (rep x n).length = n * x.length := by unfold rep; simp
theorem rep_sg {x : Bs} (h : IsS x) (n : Nat) : sg (rep x n) = some (List.replicate n x) := sg_of (sg_rep h n)
theorem ins_rep {x : Bs} (h : IsS x) (n m : Nat) (hn : n + m ≤ 4000) : insS (rep x n) n (rep x m) = (rep x n ++ rep x m, 0) := by
  have := insS_ok (sg_rep h n) (sg_rep h m) (k := n) (by simp) (by simpa using hn)
  rw [List.take_of_length_le (by simp), List.drop_of_length_le (by simp), List.append_nil, List.flatten_append] at this
  exact this
theorem ins_rep_full {x : Bs} (h : IsS x) (n m : Nat) (hn : 4000 < n + m) : insS (rep x n) n (rep x m) = ([], 6) := by
  unfold insS
  rw [rep_sg h, rep_sg h]
  show (if _ then _ else if _ then _ else _) = _
  rw [if_neg (by simp), if_pos (by simpa using hn)]
theorem isS_a : IsS [97] := by unfold IsS Beg; decide
theorem isS_e : IsS [195, 169] := by unfold IsS Beg; decide

set_option maxHeartbeats 4000000 in
theorem walk_TextFull (a0 : Int) (a1 : Int) (a2 : Bool) (w : World) (w0 : (Lit.int .i64 a0).wf = true) (w1 : (Lit.int .i64 a1).wf = true) (hT : Tabs w) :
    Calls Tryd.prog 7 #[.int .i64 a0, .int .i64 a1, .bool a2] w fun e w' => e = .returned (.bool true) ∧ Below w.heap.size w w' := by
  have cH := fun (W : World) (hb : Below w.heap.size w W) => head20_any W (hT.later hb)
  have hb := Below.refl w.heap.size w
  have hn0 : ∃ k : Nat, bits .and .i64 a0 7 = k ∧ k ≤ 7 := ⟨(a0 % 8).toNat, by rw [show (7 : Int) = ((7 : Nat) : Int) from rfl, and_i64 a0 7 3 rfl (by decide)]; simp; omega, by omega⟩
  have hm0 : ∃ m : Nat, bits .and .i64 a1 7 = m ∧ m ≤ 7 := ⟨(a1 % 8).toNat, by rw [show (7 : Int) = ((7 : Nat) : Int) from rfl, and_i64 a1 7 3 rfl (by decide)]; simp; omega, by omega⟩
  obtain ⟨k, hk, hk7⟩ := hn0
  obtain ⟨m, hm, hm7⟩ := hm0
  clear w0 w1
  cases a2 with
  | true =>
    go_enter Tryd.func7, Tryd.ntmps7
    go_wp2_with (first
      | (go_at_call 10; with_reducible refine (cH _ hb).mono ?_; rintro e w' ⟨rfl, hb'⟩; replace hb := below_step hb hb'; clear hb'))
    clear cH
    go_loopw [8, 9] (fun sv iv wr => ∃ (j : Nat) (t : ByteArray), j ≤ 3996 + k ∧ iv = .int .i64 j ∧ sv = .string t ∧ Hid (t.data.toList = rep [195, 169] j) ∧ Below w.heap.size w wr) (fun _ iv _ => 3996 + k - (RowKit.intOf iv).toNat)
    case atStart => exact ⟨0, .empty, Nat.zero_le _, rfl, rfl, Lib.hid rfl, hb⟩
    case round =>
      clear hb
      obtain ⟨j, t9, hj, rfl, rfl, ht9, hb⟩ := hrel
      have hjr := rep_len [195, 169] j
      have hxl : ([195, 169] : Bs).length ≤ 2 := by decide
      have hjm : j * ([195, 169] : Bs).length ≤ j * 2 := Nat.mul_le_mul_left _ hxl
      have hts9 : t9.size ≤ 8100 := by rw [← size_list, ht9.out]; omega
      rcases Nat.lt_or_ge j (3996 + k) with hjl | hjl
      · have hjl' : (j : Int) < (3996 + (k : Int)) := by omega
        clear hjr hxl hjm
        go_wp2_with fail
        go_roundw
        case rel => exact ⟨j + 1, _, hjl, by simp, rfl, Lib.hid (by rw [app_list, ht9.out, rep_succ]), hb⟩
        case measure => simp only [RowKit.intOf]; omega
      obtain rfl : j = 3996 + k := by omega
      have hjl' : ¬ ((3996 + (k : Int)) < (3996 + (k : Int))) := by omega
      clear hjr hxl hjm hj hjl
      go_wp2_with fail
      go_loopw [10, 11] (fun sv iv wr => ∃ (j : Nat) (t : ByteArray), j ≤ m ∧ iv = .int .i64 j ∧ sv = .string t ∧ Hid (t.data.toList = rep [195, 169] j) ∧ Below w.heap.size w wr) (fun _ iv _ => m - (RowKit.intOf iv).toNat)
      case atStart => exact ⟨0, .empty, Nat.zero_le _, rfl, rfl, Lib.hid rfl, hb⟩
      case round =>
        clear hb
        obtain ⟨j, t11, hj, rfl, rfl, ht11, hb⟩ := hrel
        have hjr := rep_len [195, 169] j
        have hxl : ([195, 169] : Bs).length ≤ 2 := by decide
        have hjm : j * ([195, 169] : Bs).length ≤ j * 2 := Nat.mul_le_mul_left _ hxl
        have hts11 : t11.size ≤ 8100 := by rw [← size_list, ht11.out]; omega
        rcases Nat.lt_or_ge j (m) with hjl | hjl
        · have hjl' : (j : Int) < (m : Int) := by omega
          clear hjr hxl hjm
          go_wp2_with fail
          go_roundw
          case rel => exact ⟨j + 1, _, hjl, by simp, rfl, Lib.hid (by rw [app_list, ht11.out, rep_succ]), hb⟩
          case measure => simp only [RowKit.intOf]; omega
        obtain rfl : m = j := by omega
        have hjl' : ¬ ((m : Int) < (m : Int)) := by omega
        clear hjr hxl hjm hj hjl
        have HS := Lib.hid (str_eq (t := t9 ++ t11) (l := rep [195, 169] (3996 + k) ++ rep [195, 169] m) (by rw [app_list, ht9.out, ht11.out]))
        by_cases hf : 4000 < 3996 + k + m
        · have hf' : (4000 : Int) < 3996 + (k : Int) + (m : Int) := by omega
          have cI : Calls Tryd.prog 11 #[.string t9, .int .i64 (3996 + (k : Int)), .string t11] wr fun e w' => e = .returned (.tuple #[str [], .int .i64 6]) ∧ Below wr.heap.size wr w' := by
            have h := insert_any t9 t11 (3996 + (k : Int)) wr (by omega) (by omega) (hT.later hb)
            rw [ht9.out, ht11.out, show (3996 + (k : Int)) = ((3996 + k : Nat) : Int) by omega, ins_rep_full isS_e _ _ hf] at h
            rw [show ((3996 + k : Nat) : Int) = (3996 + (k : Int)) by omega] at h
            exact h
          go_wp2_with (go_at_call 11; refine cI.mono ?_; rintro e w' ⟨rfl, hb'⟩; replace hb := below_step hb hb')
          go_ret
          exact ⟨rfl, hb⟩
        · have hf' : ¬ ((4000 : Int) < 3996 + (k : Int) + (m : Int)) := by omega
          have cI : Calls Tryd.prog 11 #[.string t9, .int .i64 (3996 + (k : Int)), .string t11] wr fun e w' => e = .returned (.tuple #[.string (t9 ++ t11), .int .i64 0]) ∧ Below wr.heap.size wr w' := by
            have h := insert_any t9 t11 (3996 + (k : Int)) wr (by omega) (by omega) (hT.later hb)
            rw [ht9.out, ht11.out, show (3996 + (k : Int)) = ((3996 + k : Nat) : Int) by omega, ins_rep isS_e _ _ (by omega)] at h
            rw [show ((3996 + k : Nat) : Int) = (3996 + (k : Int)) by omega] at h
            rw [HS.out]
            exact h
          go_wp2_with (go_at_call 11; refine cI.mono ?_; rintro e w' ⟨rfl, hb'⟩; replace hb := below_step hb hb')
          go_ret
          exact ⟨rfl, hb⟩
  | false =>
    go_enter Tryd.func7, Tryd.ntmps7
    go_wp2_with (first
      | (go_at_call 10; with_reducible refine (cH _ hb).mono ?_; rintro e w' ⟨rfl, hb'⟩; replace hb := below_step hb hb'; clear hb'))
    clear cH
    go_loopw [8, 9] (fun sv iv wr => ∃ (j : Nat) (t : ByteArray), j ≤ 3996 + k ∧ iv = .int .i64 j ∧ sv = .string t ∧ Hid (t.data.toList = rep [97] j) ∧ Below w.heap.size w wr) (fun _ iv _ => 3996 + k - (RowKit.intOf iv).toNat)
    case atStart => exact ⟨0, .empty, Nat.zero_le _, rfl, rfl, Lib.hid rfl, hb⟩
    case round =>
      clear hb
      obtain ⟨j, t9, hj, rfl, rfl, ht9, hb⟩ := hrel
      have hjr := rep_len [97] j
      have hxl : ([97] : Bs).length ≤ 2 := by decide
      have hjm : j * ([97] : Bs).length ≤ j * 2 := Nat.mul_le_mul_left _ hxl
      have hts9 : t9.size ≤ 8100 := by rw [← size_list, ht9.out]; omega
      rcases Nat.lt_or_ge j (3996 + k) with hjl | hjl
      · have hjl' : (j : Int) < (3996 + (k : Int)) := by omega
        clear hjr hxl hjm
        go_wp2_with fail
        go_roundw
        case rel => exact ⟨j + 1, _, hjl, by simp, rfl, Lib.hid (by rw [app_list, ht9.out, rep_succ]), hb⟩
        case measure => simp only [RowKit.intOf]; omega
      obtain rfl : j = 3996 + k := by omega
      have hjl' : ¬ ((3996 + (k : Int)) < (3996 + (k : Int))) := by omega
      clear hjr hxl hjm hj hjl
      go_wp2_with fail
      go_loopw [10, 11] (fun sv iv wr => ∃ (j : Nat) (t : ByteArray), j ≤ m ∧ iv = .int .i64 j ∧ sv = .string t ∧ Hid (t.data.toList = rep [97] j) ∧ Below w.heap.size w wr) (fun _ iv _ => m - (RowKit.intOf iv).toNat)
      case atStart => exact ⟨0, .empty, Nat.zero_le _, rfl, rfl, Lib.hid rfl, hb⟩
      case round =>
        clear hb
        obtain ⟨j, t11, hj, rfl, rfl, ht11, hb⟩ := hrel
        have hjr := rep_len [97] j
        have hxl : ([97] : Bs).length ≤ 2 := by decide
        have hjm : j * ([97] : Bs).length ≤ j * 2 := Nat.mul_le_mul_left _ hxl
        have hts11 : t11.size ≤ 8100 := by rw [← size_list, ht11.out]; omega
        rcases Nat.lt_or_ge j (m) with hjl | hjl
        · have hjl' : (j : Int) < (m : Int) := by omega
          clear hjr hxl hjm
          go_wp2_with fail
          go_roundw
          case rel => exact ⟨j + 1, _, hjl, by simp, rfl, Lib.hid (by rw [app_list, ht11.out, rep_succ]), hb⟩
          case measure => simp only [RowKit.intOf]; omega
        obtain rfl : m = j := by omega
        have hjl' : ¬ ((m : Int) < (m : Int)) := by omega
        clear hjr hxl hjm hj hjl
        have HS := Lib.hid (str_eq (t := t9 ++ t11) (l := rep [97] (3996 + k) ++ rep [97] m) (by rw [app_list, ht9.out, ht11.out]))
        by_cases hf : 4000 < 3996 + k + m
        · have hf' : (4000 : Int) < 3996 + (k : Int) + (m : Int) := by omega
          have cI : Calls Tryd.prog 11 #[.string t9, .int .i64 (3996 + (k : Int)), .string t11] wr fun e w' => e = .returned (.tuple #[str [], .int .i64 6]) ∧ Below wr.heap.size wr w' := by
            have h := insert_any t9 t11 (3996 + (k : Int)) wr (by omega) (by omega) (hT.later hb)
            rw [ht9.out, ht11.out, show (3996 + (k : Int)) = ((3996 + k : Nat) : Int) by omega, ins_rep_full isS_a _ _ hf] at h
            rw [show ((3996 + k : Nat) : Int) = (3996 + (k : Int)) by omega] at h
            exact h
          go_wp2_with (go_at_call 11; refine cI.mono ?_; rintro e w' ⟨rfl, hb'⟩; replace hb := below_step hb hb')
          go_ret
          exact ⟨rfl, hb⟩
        · have hf' : ¬ ((4000 : Int) < 3996 + (k : Int) + (m : Int)) := by omega
          have cI : Calls Tryd.prog 11 #[.string t9, .int .i64 (3996 + (k : Int)), .string t11] wr fun e w' => e = .returned (.tuple #[.string (t9 ++ t11), .int .i64 0]) ∧ Below wr.heap.size wr w' := by
            have h := insert_any t9 t11 (3996 + (k : Int)) wr (by omega) (by omega) (hT.later hb)
            rw [ht9.out, ht11.out, show (3996 + (k : Int)) = ((3996 + k : Nat) : Int) by omega, ins_rep isS_a _ _ (by omega)] at h
            rw [show ((3996 + k : Nat) : Int) = (3996 + (k : Int)) by omega] at h
            rw [HS.out]
            exact h
          go_wp2_with (go_at_call 11; refine cI.mono ?_; rintro e w' ⟨rfl, hb'⟩; replace hb := below_step hb hb')
          go_ret
          exact ⟨rfl, hb⟩
end Go.Proofs.YtkdfgdhfjaapiaaDoor
