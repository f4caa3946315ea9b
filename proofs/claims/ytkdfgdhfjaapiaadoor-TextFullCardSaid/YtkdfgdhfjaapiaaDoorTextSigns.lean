/-
  Contracts of what the statements on texts use: the signs of a text as a row of texts, a row of texts side by side, the document's example. No condition but that there are no more than 100000 bytes.
-/
import Derived.Test.YtkdfgdhfjaapiaaDoorTextCut
namespace Go.Proofs.YtkdfgdhfjaapiaaDoor
open Go.RowKit
set_option linter.unusedVariables false

theorem elem_str : ElemAt Tryd.prog 26 9 (.string .empty) 1 16 := ElemAt.mk' Tryd.underlying26 (by kernel_rfl) rfl (by decide)
theorem str_eq {t : ByteArray} {l : Bs} (h : t.data.toList = l) : (Value.string t) = str l := by
  subst h; rfl
theorem str_of (t : ByteArray) : (⟨t.data.toList.toArray⟩ : ByteArray) = t := rfl
theorem size_mk (l : Bs) : (⟨l.toArray⟩ : ByteArray).size = l.length := by show l.toArray.size = _; simp
theorem ext_list (t : ByteArray) (a b : Nat) : (t.extract a b).data.toList = (t.data.toList.take b).drop a := by
  rw [ByteArray.data_extract, Array.toList_extract, List.extract_eq_take_drop, List.take_drop]
  by_cases h : a ≤ b
  · rw [show a + (b - a) = b by omega]
  · rw [show a + (b - a) = a by omega, List.drop_of_length_le (by rw [List.length_take]; omega), List.drop_of_length_le (by rw [List.length_take]; omega)]
theorem app_list (a b : ByteArray) : (a ++ b).data.toList = a.data.toList ++ b.data.toList := by simp

/-- A row of texts lies there. -/
def IsStrs (w : World) (a : Option Addr) (M : List Bs) : Prop := ∀ j x, M[j]? = some x → ∃ g o, a = some ⟨g, o, none⟩ ∧ w.cell? ⟨g, o + j, none⟩ = some (str x)
theorem IsStrs.later {w w' : World} {a : Option Addr} {M : List Bs} (h : IsStrs w a M) (hb : Below w.heap.size w w') : IsStrs w' a M := fun j x hj => by
  obtain ⟨g, o, e, hc⟩ := h j x hj
  exact ⟨g, o, e, (Keep.of_below (T := fun _ => False) hb).cell hc (fun h => h)⟩
theorem IsStrs.of {w : World} {base n : Nat} {A : Option Addr} {c : Nat} {M : List Bs} (h : w.ownsRow base 9 1 (.slice A n c) n (M.map str)) : IsStrs w A M := fun j x hj => by
  have hx : (M.map str)[j]? = some (str x) := by rw [List.getElem?_map, hj]; rfl
  rcases h.2 with ⟨e, e0⟩ | ⟨g, cap, cur, e, _⟩
  · have := h.1
    rw [e0] at this
    have h0 : (M.map str) = [] := List.eq_nil_of_length_eq_zero (by omega)
    rw [h0] at hx; cases hx
  · cases e
    have hc := h.cells (g := g) rfl j _ hx
    rw [addr_add'] at hc
    exact ⟨g, 0, rfl, hc⟩

/-- A row of texts, and there is room for them. -/
structure Strs (w : World) (a : Option Addr) (c : Nat) (M : List Bs) : Prop where
  le : M.length ≤ c
  is : IsStrs w a M
theorem Strs.later {w w' : World} {a : Option Addr} {c : Nat} {M : List Bs} (h : Strs w a c M) (hb : Below w.heap.size w w') : Strs w' a c M := ⟨h.le, h.is.later hb⟩
theorem own_le {w : World} {base n c sz : Nat} {e : TypeId} {A : Option Addr} {xs : List Value} (h : w.ownsRow base e sz (.slice A n c) n xs) : n ≤ c := by
  rcases h.2 with ⟨e, e0⟩ | ⟨g, cap, cur, e, _, _, h1, _⟩
  · omega
  · cases e; exact h1
theorem addr_le (g o l : Nat) : ({ block := g, off := o, spot := none } : Addr).add l = ⟨g, o + l, none⟩ := addr_add' g o l
/-- Its beginning, what is behind, and what is between. -/
theorem IsStrs.take {w : World} {a : Option Addr} {M : List Bs} (h : IsStrs w a M) (k : Nat) : IsStrs w a (M.take k) := fun j x hj => by
  rw [List.getElem?_take] at hj
  split at hj
  · exact h j x hj
  · cases hj
theorem Strs.drop {w : World} {a : Option Addr} {c : Nat} {M : List Bs} (h : Strs w a c M) (k : Nat) : IsStrs w (if c = k then a else a.map (·.add k)) (M.drop k) := fun j x hj => by
  rw [List.getElem?_drop] at hj
  obtain ⟨g, o, rfl, hc⟩ := h.is (k + j) x hj
  have hl := (List.getElem?_eq_some_iff.1 hj).1
  have := h.le
  rw [if_neg (by omega)]
  exact ⟨g, o + k, by rw [Option.map_some, addr_le], by rw [Nat.add_assoc]; exact hc⟩

theorem Strs.drop_eq {w : World} {a : Option Addr} {c : Nat} {M : List Bs} (h : Strs w a c M) {k : Nat} (e : c = k) : IsStrs w a (M.drop k) := by
  have := h.drop k
  rwa [if_pos e] at this
theorem Strs.drop_ne {w : World} {a : Option Addr} {c : Nat} {M : List Bs} (h : Strs w a c M) {k : Nat} (e : ¬ c = k) : IsStrs w (a.map (·.add k)) (M.drop k) := by
  have := h.drop k
  rwa [if_neg e] at this

set_option maxHeartbeats 2000000 in
/-- Texts side by side. -/
theorem join_any (a : Option Addr) (n c : Nat) (M : List Bs) (hMn : M.length = n) (w : World) (h : IsStrs w a M) (hn : M.flatten.length ≤ 1000000) (hM : M.length ≤ 1000000) :
    Calls Tryd.prog 14 #[.slice a n c] w fun e w' => e = .returned (str M.flatten) ∧ Below w.heap.size w w' := by
  subst hMn
  go_enter Tryd.func14, Tryd.ntmps14
  go_wp2_with fail
  go_loopw [3, 8] (fun sv iv wr => ∃ (j : Nat) (t : ByteArray), j ≤ M.length ∧ iv = .int .i64 j ∧ sv = .string t ∧ Hid (t.data.toList = (M.take j).flatten) ∧ Below w.heap.size w wr) (fun _ iv _ => M.length - (RowKit.intOf iv).toNat)
  case atStart => exact ⟨0, .empty, Nat.zero_le _, rfl, rfl, Lib.hid rfl, Below.refl _ _⟩
  case round =>
    obtain ⟨j, t, hj, rfl, rfl, ht, hb⟩ := hrel
    rcases Nat.lt_or_ge j M.length with hjl | hjl
    · obtain ⟨g, o, rfl, hc0⟩ := h j M[j] (List.getElem?_eq_getElem hjl)
      have hjl' : (j : Int) < (M.length : Int) := by omega
      have hc : wr.cell? ⟨g, o + j, none⟩ = some (str M[j]) := (Keep.of_below (T := fun _ => False) hb).cell hc0 (fun h => h)
      obtain ⟨x, hx⟩ : ∃ x : ByteArray, (⟨M[j].toArray⟩ : ByteArray) = x := ⟨_, rfl⟩
      have hxl : x.data.toList = M[j] := by rw [← hx]
      have hm : (M.take j).flatten.length + M[j].length ≤ 1000000 := by
        have h1 := off_succ M j hjl
        have h2 := off_le M (j + 1)
        unfold off at h1 h2
        omega
      have hts : t.size ≤ 1000000 := by rw [← size_list, ht.out]; omega
      have hxs : x.size ≤ 1000000 := by rw [← size_list, hxl]; omega
      have HX := Lib.hid hxl
      rw [show str M[j] = .string x from congrArg Value.string hx] at hc
      clear hx hxl hm
      go_wp2_with fail
      go_roundw
      case rel => exact ⟨j + 1, _, hjl, by simp, rfl, Lib.hid (by rw [app_list, ht.out, take_snoc hjl, flat_snoc, HX.out]), hb⟩
      case measure => simp only [RowKit.intOf]; omega
    · obtain rfl : j = M.length := by omega
      have hjl' : ¬ ((M.length : Int) < (M.length : Int)) := by omega
      go_wp2_with fail
      go_ret
      exact ⟨congrArg Ending.returned (str_eq (l := M.flatten) (by rw [ht.out, List.take_of_length_le (Nat.le_refl _)])), hb⟩
set_option maxHeartbeats 2000000 in
theorem signs_some {L : List Bs} (hL : Sg L) (s : ByteArray) (hs : s.data.toList = L.flatten) (hn : s.size ≤ 100000) (w : World) (hT : Tabs w) :
    Calls Tryd.prog 12 #[.string s] w fun e w' => ∃ A c, e = .returned (.tuple #[.slice A L.length c, .bool true]) ∧ Strs w' A c L ∧ Below w.heap.size w w' := by
  have hLn : L.length ≤ 100000 := by have := hL.le; rw [← hs, size_list] at this; omega
  go_enter Tryd.func12, Tryd.ntmps12
  go_wp2_with fail
  go_loopw [0, 4] (fun sv ov wr => ∃ (k : Nat) (t : ByteArray) (A : Option Addr) (c : Nat), k ≤ L.length ∧ sv = .string t ∧ ov = .slice A k c ∧ Hid (t.data.toList = (L.drop k).flatten) ∧ Hid (Hold w wr [tRow w.heap.size 9 1 (.slice A k c) k ((L.map str).take k)])) (fun sv _ _ => match sv with | .string t => t.size | _ => 0)
  case atStart =>
    refine ⟨0, s, _, _, Nat.zero_le _, rfl, rfl, Lib.hid hs, Lib.hid ?_⟩
    exact (Hold.nil (Below.refl _ w)).more (A := tRow w.heap.size 9 1 (.slice (some ⟨w.heap.size, 0, none⟩) 0 0) 0 []) (below_new (Below.refl _ _) _) (tRow_ok _ _ _ _ _ _)
      ⟨rfl, .inr ⟨_, 0, #[], rfl, Nat.le_refl _, heap_alloc_new _ _, Nat.le_refl _, Nat.zero_le _, rfl, rfl⟩⟩ (fun q hq => by cases hq; exact Nat.le_refl _)
  case round =>
    obtain ⟨k, t, A, c, hk, rfl, rfl, ht, HH⟩ := hrel
    have hts : t.size ≤ 100000 := by rw [← size_list, ht.out, ← flat_drop, List.length_drop, ← hs, size_list]; omega
    have hT1 := hT.later HH.out.below
    rcases Nat.lt_or_ge k L.length with hkl | hkl
    · have hx := hL _ (List.getElem_mem hkl)
      have hd : Utf8.decode t 0 = dec L[k] := by rw [decode_dec, ht.out, List.drop_zero, List.drop_eq_getElem_cons hkl, List.flatten_cons, hx.app]
      have hsz : t.size = L[k].length + ((L.drop (k + 1)).flatten).length := by rw [← size_list, ht.out, List.drop_eq_getElem_cons hkl, List.flatten_cons, List.length_append]
      have hx0 := hx.1
      have hgo : Lib.decodeGo t = dec L[k] := by unfold Lib.decodeGo; rw [if_neg (by omega), hd]
      have cD := Any.utf8_DecodeRuneInString lays197 t wr hT1
      rw [hgo, hx.2.1] at cD
      have hbeg := hx.2.2
      unfold Beg at hbeg
      rw [hx.2.1] at hbeg
      obtain ⟨r, hr⟩ : ∃ r, (dec L[k]).1 = r := ⟨_, rfl⟩
      obtain ⟨n, hn'⟩ : ∃ n, L[k].length = n := ⟨_, rfl⟩
      rw [hr, hn'] at cD hbeg
      rw [hn'] at hsz hx0
      have hn1 : (n : Int) ≤ (t.size : Int) := by omega
      have hts0 : (0 : Int) < (t.size : Int) := by omega
      have hE1 : str L[k] = .string (t.extract 0 n) := (str_eq (by rw [ext_list, List.drop_zero, ht.out, List.drop_eq_getElem_cons hkl, List.flatten_cons, ← hn', List.take_left])).symm
      have HE2 : Hid ((t.extract n t.size).data.toList = (L.drop (k + 1)).flatten) := Lib.hid (by rw [ext_list, ← size_list, List.take_length, ht.out, List.drop_eq_getElem_cons hkl, List.flatten_cons, ← hn', List.drop_left])
      have HE3 : Hid ((t.extract n t.size).size < t.size) := Lib.hid (by rw [← size_list, HE2.out]; omega)
      have hLk : (L.map str).take (k + 1) = (L.map str).take k ++ [.string (t.extract 0 n)] := by rw [List.take_succ_eq_append_getElem (by rw [List.length_map]; exact hkl), List.getElem_map, hE1]
      have hkn : k ≤ 100000 := by omega
      clear hd hgo hx hr hn' hE1 hT1 hsz
      have two : ((r : Int) = 65533 ∧ ¬ ((n : Int) ≤ 1)) ∨ ¬ ((r : Int) = 65533) := by omega
      rcases two with ⟨hr, hn2⟩ | hr
      · go_wp2_with (first
          | (go_at_call 21; refine cD.mono ?_; rintro e w2 ⟨rfl, hb2⟩; have HH2 := Lib.hid (HH.out.later hb2); clear hb2)
          | (at_builtin; go_loud (refine list_append_grew rfl _ _ 26 rfl w.heap.size 9 _ 1 16 elem_str (.slice A k c) k ((L.map str).take k) rfl ((HH2.out.later (below_new (Below.refl _ _) _)).has 0 _ rfl) (some ⟨_, 0, none⟩) 1 1 [.string (t.extract 0 n)] rfl (src_list _ [.string (t.extract 0 n)] _ 1 1 rfl (by intro u hu; rw [List.mem_singleton.1 hu]; rfl)) (by unfold maxLen; omega) (by omega) (HH2.out.later (below_new (Below.refl _ _) _)).size ?_)))
        intro v' w4 hG
        obtain ⟨A2, c2, rfl⟩ := own_shape hG.own
        rw [← hLk] at hG
        have HH4 := Lib.hid ((HH2.out.later (below_new (Below.refl _ _) _)).append 0 rfl rfl hG)
        clear hG HH2
        go_wp2_with fail
        go_roundw
        case rel => exact ⟨k + 1, _, A2, c2, hkl, rfl, rfl, HE2, HH4⟩
        case measure => exact HE3.out
      · go_wp2_with (first
          | (go_at_call 21; refine cD.mono ?_; rintro e w2 ⟨rfl, hb2⟩; have HH2 := Lib.hid (HH.out.later hb2); clear hb2)
          | (at_builtin; go_loud (refine list_append_grew rfl _ _ 26 rfl w.heap.size 9 _ 1 16 elem_str (.slice A k c) k ((L.map str).take k) rfl ((HH2.out.later (below_new (Below.refl _ _) _)).has 0 _ rfl) (some ⟨_, 0, none⟩) 1 1 [.string (t.extract 0 n)] rfl (src_list _ [.string (t.extract 0 n)] _ 1 1 rfl (by intro u hu; rw [List.mem_singleton.1 hu]; rfl)) (by unfold maxLen; omega) (by omega) (HH2.out.later (below_new (Below.refl _ _) _)).size ?_)))
        intro v' w4 hG
        obtain ⟨A2, c2, rfl⟩ := own_shape hG.own
        rw [← hLk] at hG
        have HH4 := Lib.hid ((HH2.out.later (below_new (Below.refl _ _) _)).append 0 rfl rfl hG)
        clear hG HH2
        go_wp2_with fail
        go_roundw
        case rel => exact ⟨k + 1, _, A2, c2, hkl, rfl, rfl, HE2, HH4⟩
        case measure => exact HE3.out
    · obtain rfl : k = L.length := by omega
      have ht0 : t.size = 0 := by rw [← size_list, ht.out, List.drop_length]; rfl
      rw [List.take_of_length_le (by rw [List.length_map]; exact Nat.le_refl _)] at HH
      have hts0 : ¬ ((0 : Int) < (t.size : Int)) := by omega
      go_wp2_with fail
      go_ret2
      exact ⟨A, c, rfl, ⟨own_le (HH.out.has 0 _ rfl), IsStrs.of (HH.out.has 0 _ rfl)⟩, HH.out.below⟩
set_option maxHeartbeats 2000000 in
theorem signs_none {L : List Bs} {r0 : Bs} (hL : Sg L) (s : ByteArray) (hs : s.data.toList = L.flatten ++ r0) (h0 : r0 ≠ []) (hnb : ¬ Beg r0) (hn : s.size ≤ 100000) (w : World) (hT : Tabs w) :
    Calls Tryd.prog 12 #[.string s] w fun e w' => e = .returned (.tuple #[.slice none 0 0, .bool false]) ∧ Below w.heap.size w w' := by
  have hFn : L.flatten.length + r0.length ≤ 100000 := by rw [← size_list, hs, List.length_append] at hn; omega
  have hLn : L.length ≤ 100000 := by have := hL.le; omega
  have hr0 : 0 < r0.length := List.length_pos_iff.2 h0
  go_enter Tryd.func12, Tryd.ntmps12
  go_wp2_with fail
  go_loopw [0, 4] (fun sv ov wr => ∃ (k : Nat) (t : ByteArray) (A : Option Addr) (c : Nat), k ≤ L.length ∧ sv = .string t ∧ ov = .slice A k c ∧ Hid (t.data.toList = (L.drop k).flatten ++ r0) ∧ Hid (Hold w wr [tRow w.heap.size 9 1 (.slice A k c) k ((L.map str).take k)])) (fun sv _ _ => match sv with | .string t => t.size | _ => 0)
  case atStart =>
    refine ⟨0, s, _, _, Nat.zero_le _, rfl, rfl, Lib.hid hs, Lib.hid ?_⟩
    exact (Hold.nil (Below.refl _ w)).more (A := tRow w.heap.size 9 1 (.slice (some ⟨w.heap.size, 0, none⟩) 0 0) 0 []) (below_new (Below.refl _ _) _) (tRow_ok _ _ _ _ _ _)
      ⟨rfl, .inr ⟨_, 0, #[], rfl, Nat.le_refl _, heap_alloc_new _ _, Nat.le_refl _, Nat.zero_le _, rfl, rfl⟩⟩ (fun q hq => by cases hq; exact Nat.le_refl _)
  case round =>
    obtain ⟨k, t, A, c, hk, rfl, rfl, ht, HH⟩ := hrel
    have hts : t.size ≤ 100000 := by rw [← size_list, ht.out, ← flat_drop, List.length_append, List.length_drop]; omega
    have hT1 := hT.later HH.out.below
    rcases Nat.lt_or_ge k L.length with hkl | hkl
    · have hx := hL _ (List.getElem_mem hkl)
      have hd : Utf8.decode t 0 = dec L[k] := by rw [decode_dec, ht.out, List.drop_zero, List.drop_eq_getElem_cons hkl, List.flatten_cons, List.append_assoc, hx.app]
      have hsz : t.size = L[k].length + ((L.drop (k + 1)).flatten ++ r0).length := by rw [← size_list, ht.out, List.drop_eq_getElem_cons hkl, List.flatten_cons, List.append_assoc, List.length_append]
      have hx0 := hx.1
      have hgo : Lib.decodeGo t = dec L[k] := by unfold Lib.decodeGo; rw [if_neg (by omega), hd]
      have cD := Any.utf8_DecodeRuneInString lays197 t wr hT1
      rw [hgo, hx.2.1] at cD
      have hbeg := hx.2.2
      unfold Beg at hbeg
      rw [hx.2.1] at hbeg
      obtain ⟨r, hr⟩ : ∃ r, (dec L[k]).1 = r := ⟨_, rfl⟩
      obtain ⟨n, hn'⟩ : ∃ n, L[k].length = n := ⟨_, rfl⟩
      rw [hr, hn'] at cD hbeg
      rw [hn'] at hsz hx0
      have hn1 : (n : Int) ≤ (t.size : Int) := by omega
      have hts0 : (0 : Int) < (t.size : Int) := by omega
      have hE1 : str L[k] = .string (t.extract 0 n) := (str_eq (by rw [ext_list, List.drop_zero, ht.out, List.drop_eq_getElem_cons hkl, List.flatten_cons, List.append_assoc, ← hn', List.take_left])).symm
      have HE2 : Hid ((t.extract n t.size).data.toList = (L.drop (k + 1)).flatten ++ r0) := Lib.hid (by rw [ext_list, ← size_list, List.take_length, ht.out, List.drop_eq_getElem_cons hkl, List.flatten_cons, List.append_assoc, ← hn', List.drop_left])
      have HE3 : Hid ((t.extract n t.size).size < t.size) := Lib.hid (by rw [← size_list, HE2.out]; omega)
      have hLk : (L.map str).take (k + 1) = (L.map str).take k ++ [.string (t.extract 0 n)] := by rw [List.take_succ_eq_append_getElem (by rw [List.length_map]; exact hkl), List.getElem_map, hE1]
      have hkn : k ≤ 100000 := by omega
      clear hd hgo hx hr hn' hE1 hT1 hsz
      have two : ((r : Int) = 65533 ∧ ¬ ((n : Int) ≤ 1)) ∨ ¬ ((r : Int) = 65533) := by omega
      rcases two with ⟨hr, hn2⟩ | hr
      · go_wp2_with (first
          | (go_at_call 21; refine cD.mono ?_; rintro e w2 ⟨rfl, hb2⟩; have HH2 := Lib.hid (HH.out.later hb2); clear hb2)
          | (at_builtin; go_loud (refine list_append_grew rfl _ _ 26 rfl w.heap.size 9 _ 1 16 elem_str (.slice A k c) k ((L.map str).take k) rfl ((HH2.out.later (below_new (Below.refl _ _) _)).has 0 _ rfl) (some ⟨_, 0, none⟩) 1 1 [.string (t.extract 0 n)] rfl (src_list _ [.string (t.extract 0 n)] _ 1 1 rfl (by intro u hu; rw [List.mem_singleton.1 hu]; rfl)) (by unfold maxLen; omega) (by omega) (HH2.out.later (below_new (Below.refl _ _) _)).size ?_)))
        intro v' w4 hG
        obtain ⟨A2, c2, rfl⟩ := own_shape hG.own
        rw [← hLk] at hG
        have HH4 := Lib.hid ((HH2.out.later (below_new (Below.refl _ _) _)).append 0 rfl rfl hG)
        clear hG HH2
        go_wp2_with fail
        go_roundw
        case rel => exact ⟨k + 1, _, A2, c2, hkl, rfl, rfl, HE2, HH4⟩
        case measure => exact HE3.out
      · go_wp2_with (first
          | (go_at_call 21; refine cD.mono ?_; rintro e w2 ⟨rfl, hb2⟩; have HH2 := Lib.hid (HH.out.later hb2); clear hb2)
          | (at_builtin; go_loud (refine list_append_grew rfl _ _ 26 rfl w.heap.size 9 _ 1 16 elem_str (.slice A k c) k ((L.map str).take k) rfl ((HH2.out.later (below_new (Below.refl _ _) _)).has 0 _ rfl) (some ⟨_, 0, none⟩) 1 1 [.string (t.extract 0 n)] rfl (src_list _ [.string (t.extract 0 n)] _ 1 1 rfl (by intro u hu; rw [List.mem_singleton.1 hu]; rfl)) (by unfold maxLen; omega) (by omega) (HH2.out.later (below_new (Below.refl _ _) _)).size ?_)))
        intro v' w4 hG
        obtain ⟨A2, c2, rfl⟩ := own_shape hG.own
        rw [← hLk] at hG
        have HH4 := Lib.hid ((HH2.out.later (below_new (Below.refl _ _) _)).append 0 rfl rfl hG)
        clear hG HH2
        go_wp2_with fail
        go_roundw
        case rel => exact ⟨k + 1, _, A2, c2, hkl, rfl, rfl, HE2, HH4⟩
        case measure => exact HE3.out
    · obtain rfl : k = L.length := by omega
      have htl : t.data.toList = r0 := by rw [ht.out, List.drop_length]; rfl
      have hsz : t.size = r0.length := by rw [← size_list, htl]
      have hgo : Lib.decodeGo t = (65533, 1) := by unfold Lib.decodeGo; rw [if_neg (by omega), decode_dec, htl, List.drop_zero, dec_not hnb]
      have cD := Any.utf8_DecodeRuneInString lays197 t wr hT1
      rw [hgo] at cD
      have hts0 : (0 : Int) < (t.size : Int) := by omega
      clear hsz
      go_wp2_with (go_at_call 21; refine cD.mono ?_; rintro e w2 ⟨rfl, hb2⟩)
      go_ret2
      exact ⟨rfl, below_step HH.out.below hb2⟩
end Go.Proofs.YtkdfgdhfjaapiaaDoor
