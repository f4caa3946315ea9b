/-
  MemActs answers true for every number and list of acts, and leaves all memory that was there as it was. No condition.
-/
import Derived.Test.YteokinaneilgjaaMemRows
namespace Go.Proofs.Yteokinaneilgjaa
open Go.RowKit
set_option linter.unusedVariables false

theorem acts_made {w w2 w3 : World} {p c m : Nat} (hO : Own w w2 p c (.slice none 0 0) (List.replicate m 0) [])
    (hown : w3.ownsRow w.heap.size 28 1 (.slice (some ⟨w2.heap.size, 0, none⟩) m m) m (madeCells (Value.int .u64 0).cells (m * 1)).toList) (hg : w2.grownBy w3 none) :
    Acts w (w3.alloc (.cells #[] 35)) p c (.slice none 0 0) (List.replicate m 0) [] w2.heap.size (.slice (some ⟨w3.heap.size, 0, none⟩) 0 0) (List.replicate m 0) [] := by
  rw [toList_made] at hown
  have hl : (List.replicate m (0 : Int)).length = m := List.length_replicate
  have hb : Below w2.heap.size w2 (w3.alloc (.cells #[] 35)) := below_new ((Below.refl _ _).grown hg (Nat.le_refl _) (fun k hk => by cases hk)) _
  have h3 : w2.heap.size < w3.heap.size := (hown.lt _ rfl).2
  have hs : w.heap.size ≤ w3.heap.size := Nat.le_trans hO.size hg.size
  refine ⟨hO.later hb, ?_, World.ownsRow_made w3 #[] 0 hs (by unfold maxLen; omega) rfl, fun hf => ?_, fun k hk hf => ?_, fun hk => ?_⟩
  · rw [hl]
    exact hown.alloc _
  · have := (hO.mem.foot _ hf).2
    omega
  · simp only [Value.ownBlock, Option.some.injEq] at hk
    have := (hO.mem.foot _ hf).2
    omega
  · simp only [Value.ownBlock, Option.some.injEq] at hk
    omega

theorem src_at {w W : World} {b : Nat} (e : Ev) (hb : b = w.heap.size) (h : W.heap = (w.alloc (.cells #[i64 e.who, i64 e.op, i64 e.cell, u64 e.old, u64 e.new, .bool e.ok] 35)).heap) : Src W 6 (some ⟨b, 0, none⟩) 1 e.cells := by
  subst hb
  exact src_one' w W e h
theorem size_set (w : World) (p : Addr) (u : Value) : w.heap.size = (w.setCell p u).heap.size := by simp [World.setCell]

set_option maxRecDepth 100000 in
set_option maxHeartbeats 20000000 in
theorem walk_MemActs (a0 : Int) (a1 : Option Addr) (len1 cap1 : Nat) (w : World) (w0 : (Lit.int .i64 a0).wf = true) (w1 : IsRows w [.inl .i64, .inl .i64, .inl .i64, .inl .u64, .inl .u64] a1 len1 cap1) :
    Calls Try.prog 3 #[.int .i64 a0, .slice a1 len1 cap1] w fun e w' => e = .returned (.bool true) ∧ Below w.heap.size w w' := by
  clear w0
  by_cases hbig : 60 < len1
  · have hbig' : (60 : Int) < (len1 : Int) := by omega
    clear w1
    go_enter Try.func3, Try.ntmps3
    go_wp2_with fail
    refine (head3_any _).mono ?_
    rintro e w1 ⟨rfl, hb1⟩
    go_wp2_with fail
    go_ret
    exact ⟨rfl, hb1⟩
  · have p0 : decide ((60 : Int) < (len1 : Int)) = false := decide_eq_false (by omega)
    have W1 := Lib.hid w1
    obtain ⟨m, hm, hm15⟩ : ∃ m : Nat, bits .and .i64 a0 15 = (m : Int) ∧ m ≤ 15 := ⟨(a0 % 16).toNat, by rw [show (15 : Int) = ((15 : Nat) : Int) from rfl, and_i64 a0 15 4 rfl (by decide)]; omega, by omega⟩
    obtain ⟨iu, hi, hz0, hz1, hz2⟩ := elem_u64.info
    clear w1
    go_enter Try.func3, Try.ntmps3
    go_wp2_with fail
    refine (head3_any _).mono ?_
    rintro e w1 ⟨rfl, hb1⟩
    go_wp2_with fail
    refine (new_nat w.heap.size m _ _ hb1.size (by omega) (.inl rfl)).mono ?_
    rintro r w2 ⟨p, c, rfl, hM2, hb2, hp, hc⟩
    have hO := Own.made hb1 hM2 hb2
    clear hM2 hb2 hb1 hp hc
    go_wp2_with (refine wpList_make_full _ rfl _ _ 26 rfl w.heap.size 28 iu (.int .u64 0) 1 elem_u64.und hi hz0 hz1 .i64 .i64 _ _ m rfl rfl (by first | rfl | omega) (by first | rfl | omega) (by rw [hz2]; omega) (by unfold maxLen; omega) hO.size ?_; intro w3 hown hgrow; have hs3 := (hown.lt _ rfl).2)
    have hA0 : Acts w (w3.alloc (.cells #[] 35)) p c _ (List.replicate m 0) [] w2.heap.size (.slice (some ⟨w3.heap.size, 0, none⟩) 0 0) (List.replicate m 0) [] := acts_made hO hown hgrow
    clear hO hown hgrow hs3
    generalize w2.heap.size = g at *
    go_loopw [7, 32] (fun l i wr => ∃ (n : Nat) (v lv : Value) (C : List Int) (L : List Ev), n ≤ len1 ∧ i = .int .i64 n ∧ lv = l ∧ Acts w wr p c v C L g lv C L ∧ Hid (C.length = m) ∧ Hid (L.length ≤ n)) (fun _ i _ => len1 - (intOf i).toNat)
    case atStart => exact ⟨0, _, _, _, _, by omega, rfl, rfl, hA0, List.length_replicate, Nat.le_refl _⟩
    case round =>
      clear hA0
      obtain ⟨n, v, lv, C, L, hn, rfl, rfl, hA, hC, hL⟩ := hrel
      rcases Nat.lt_or_ge n len1 with hlt | hge
      · obtain ⟨b, off, X, rfl, hcap, hX⟩ := rows_acts W1.out (by omega)
        obtain ⟨hx, hok⟩ := hX n hlt
        have hl := hx.lt
        have hx' := hx.later hA.own.below hl
        obtain ⟨c0, c1, c2, c3, c4, _⟩ := hx'
        clear hX hx
        generalize X n = a at *
        have Hok := Lib.hid hok
        clear hok
        obtain ⟨who, op, cell, old, x⟩ := a
        simp only at c0 c1 c2 c3 c4
        have hand : bits .and .i64 op 3 = op % 4 := and_i64 op 3 2 rfl (by decide)
        have hA1 : Acts w (wr.alloc (.cells #[.int .i64 who, .int .i64 op, .int .i64 cell, .int .u64 old, .int .u64 x] 30)) p c v C L g lv C L := hA.later (below_new (Below.refl _ _) _)
        have hvar : ∀ {T : Nat → Prop} {w' : World}, Keep T (wr.alloc (.cells #[.int .i64 who, .int .i64 op, .int .i64 cell, .int .u64 old, .int .u64 x] 30)) w' → ¬ T wr.heap.size → AtA w' wr.heap.size 0 ⟨who, op, cell, old, x⟩ := fun h hn =>
          ⟨h.cell (World.cell?_alloc_new wr _ _ 0) hn, h.cell (World.cell?_alloc_new wr _ _ 1) hn, h.cell (World.cell?_alloc_new wr _ _ 2) hn, h.cell (World.cell?_alloc_new wr _ _ 3) hn, h.cell (World.cell?_alloc_new wr _ _ 4) hn, by have := h.size; simp at this; omega⟩
        by_cases hin : 0 ≤ cell ∧ cell < C.length
        · obtain ⟨i, rfl⟩ := Int.eq_ofNat_of_zero_le hin.1
          have hi' : i < C.length := by omega
          obtain ⟨y, hy⟩ : ∃ y, C[i]? = some y := ⟨_, List.getElem?_eq_getElem hi'⟩
          have hd : C.getD i 0 = y := by rw [List.getD_eq_getElem?_getD, hy]; rfl
          have hn : Ac.n' ⟨who, op, i, old, x⟩ C = Ac.num ⟨who, op, i, old, x⟩ y := by simp only [Ac.n', hin, and_self, if_true, Int.toNat_natCast, hd]
          have hb : Ac.b' ⟨who, op, i, old, x⟩ C = (Ac.ev ⟨who, op, i, old, x⟩ y).ok := by simp only [Ac.b', hin, and_self, if_true, Int.toNat_natCast, hd]
          have hc : Ac.cells' ⟨who, op, i, old, x⟩ C = C.set i (Ac.ev ⟨who, op, i, old, x⟩ y).new := by simp only [Ac.cells', hin, and_self, if_true, Int.toNat_natCast, hd]
          have hl : Ac.log' ⟨who, op, i, old, x⟩ C L = L ++ [Ac.ev ⟨who, op, i, old, x⟩ y] := by simp only [Ac.log', hin, and_self, if_true, Int.toNat_natCast, hd]
          have him : i < m := by have := hC.out; omega
          have him' : (i : Int) < (m : Int) := by omega
          have Hi := Lib.hid hi'
          have Hy := Lib.hid hy
          have HA := Lib.hid hA
          clear hin hi' hd hy
          rcases mod4 op with h4 | h4 | h4 | h4
          ·
            have he : Ac.ev ⟨who, op, i, old, x⟩ y = ⟨who, 0, i, y, y, true⟩ := by simp [Ac.ev, h4]
            have hm' : Ac.num ⟨who, op, i, old, x⟩ y = y := by simp [Ac.num, h4]
            rw [hm'] at hn
            rw [he] at hb hc hl
            rw [h4] at hand
            have Hn := Lib.hid hn
            have Hb := Lib.hid hb
            have Hc := Lib.hid hc
            have Hl := Lib.hid hl
            clear hn hb hc hl he hm' HA
            (try clear hyo)
            go_wp2_with fail
            refine (do_any w.heap.size _ p c v C L _ hA1.own.mem Hok.out hA1.own.size (by have := hL.out; omega)).mono ?_
            rintro r w5 ⟨rfl, v5, hT⟩
            rw [Hn.out, Hb.out]
            have hA2 := hA1.touched hT
            rw [Hc.out, Hl.out] at hA2
            have hv := hvar hT.keep (fun h => Nat.lt_irrefl _ (hA.own.mem.foot _ h).2)
            obtain ⟨v0, v1, v2, v3, v4, vlt⟩ := hv
            have gc := hA2.row.cellAt i (by rw [Nat.mul_one]; exact Hi.out)
            rw [List.getElem?_map, Hy.out] at gc
            have gf := hA2.row.frozenAt i
            have HS := Lib.hid (hA2.store i (y))
            have HT' := Lib.hid hT
            have vne : wr.heap.size ≠ g := fun h => by have := (hA.row.lt g rfl).2; omega
            clear hA2 hT
            go_wp2_with (at_builtin; refine list_append_grew rfl _ _ 27 rfl w.heap.size 35 _ 6 48 elem_ev lv L.length (flatE L) rfl ((HS.out.later (below_new (Below.refl _ _) _)).log) (some ⟨_, 0, none⟩) 1 1 (Ev.cells ⟨who, 0, i, y, y, true⟩) rfl (src_at ⟨who, 0, i, y, y, true⟩ (size_set w5 ⟨g, i, none⟩ (.int .u64 (y))) rfl) (by have := hL.out; unfold maxLen; omega) (by have := hL.out; omega) ((HS.out.later (below_new (Below.refl _ _) _)).own.size) ?_; intro lv' w6 hG)
            have hA4 := (HS.out.later (below_new (Below.refl _ _) _)).append hG
            go_roundw
            case rel => exact ⟨n + 1, v5, lv', _, _, by omega, by go_num, rfl, hA4, by show _ = _; rw [List.length_set]; exact hC.out, by show _ ≤ _; rw [List.length_append]; exact Nat.succ_le_succ hL.out⟩
            case measure => simp [intOf]; omega
          ·
            have he : Ac.ev ⟨who, op, i, old, x⟩ y = ⟨who, 1, i, y, x, true⟩ := by simp [Ac.ev, h4]
            have hm' : Ac.num ⟨who, op, i, old, x⟩ y = 0 := by simp [Ac.num, h4]
            rw [hm'] at hn
            rw [he] at hb hc hl
            rw [h4] at hand
            have Hn := Lib.hid hn
            have Hb := Lib.hid hb
            have Hc := Lib.hid hc
            have Hl := Lib.hid hl
            clear hn hb hc hl he hm' HA
            (try clear hyo)
            go_wp2_with fail
            refine (do_any w.heap.size _ p c v C L _ hA1.own.mem Hok.out hA1.own.size (by have := hL.out; omega)).mono ?_
            rintro r w5 ⟨rfl, v5, hT⟩
            rw [Hn.out, Hb.out]
            have hA2 := hA1.touched hT
            rw [Hc.out, Hl.out] at hA2
            have hv := hvar hT.keep (fun h => Nat.lt_irrefl _ (hA.own.mem.foot _ h).2)
            obtain ⟨v0, v1, v2, v3, v4, vlt⟩ := hv
            have gc := hA2.row.cellAt i (by rw [Nat.mul_one]; exact Hi.out)
            rw [List.getElem?_map, Hy.out] at gc
            have gf := hA2.row.frozenAt i
            have HS := Lib.hid (hA2.store i (x))
            have HT' := Lib.hid hT
            have vne : wr.heap.size ≠ g := fun h => by have := (hA.row.lt g rfl).2; omega
            clear hA2 hT
            go_wp2_with (at_builtin; refine list_append_grew rfl _ _ 27 rfl w.heap.size 35 _ 6 48 elem_ev lv L.length (flatE L) rfl ((HS.out.later (below_new (Below.refl _ _) _)).log) (some ⟨_, 0, none⟩) 1 1 (Ev.cells ⟨who, 1, i, y, x, true⟩) rfl (src_at ⟨who, 1, i, y, x, true⟩ (size_set w5 ⟨g, i, none⟩ (.int .u64 (x))) rfl) (by have := hL.out; unfold maxLen; omega) (by have := hL.out; omega) ((HS.out.later (below_new (Below.refl _ _) _)).own.size) ?_; intro lv' w6 hG)
            have hA4 := (HS.out.later (below_new (Below.refl _ _) _)).append hG
            go_roundw
            case rel => exact ⟨n + 1, v5, lv', _, _, by omega, by go_num, rfl, hA4, by show _ = _; rw [List.length_set]; exact hC.out, by show _ ≤ _; rw [List.length_append]; exact Nat.succ_le_succ hL.out⟩
            case measure => simp [intOf]; omega
          · by_cases hyo : y = old
            ·
              have hq : (y == old) = true := by simpa using hyo
              have he : Ac.ev ⟨who, op, i, old, x⟩ y = ⟨who, 2, i, y, x, true⟩ := by simp [Ac.ev, h4, hyo]
              have hm' : Ac.num ⟨who, op, i, old, x⟩ y = 0 := by simp [Ac.num, h4]
              rw [hm'] at hn
              rw [he] at hb hc hl
              rw [h4] at hand
              have Hn := Lib.hid hn
              have Hb := Lib.hid hb
              have Hc := Lib.hid hc
              have Hl := Lib.hid hl
              clear hn hb hc hl he hm' HA
              (try clear hyo)
              go_wp2_with fail
              refine (do_any w.heap.size _ p c v C L _ hA1.own.mem Hok.out hA1.own.size (by have := hL.out; omega)).mono ?_
              rintro r w5 ⟨rfl, v5, hT⟩
              rw [Hn.out, Hb.out]
              have hA2 := hA1.touched hT
              rw [Hc.out, Hl.out] at hA2
              have hv := hvar hT.keep (fun h => Nat.lt_irrefl _ (hA.own.mem.foot _ h).2)
              obtain ⟨v0, v1, v2, v3, v4, vlt⟩ := hv
              have gc := hA2.row.cellAt i (by rw [Nat.mul_one]; exact Hi.out)
              rw [List.getElem?_map, Hy.out] at gc
              have gf := hA2.row.frozenAt i
              have HS := Lib.hid (hA2.store i (x))
              have HT' := Lib.hid hT
              have vne : wr.heap.size ≠ g := fun h => by have := (hA.row.lt g rfl).2; omega
              clear hA2 hT
              go_wp2_with (at_builtin; refine list_append_grew rfl _ _ 27 rfl w.heap.size 35 _ 6 48 elem_ev lv L.length (flatE L) rfl ((HS.out.later (below_new (Below.refl _ _) _)).log) (some ⟨_, 0, none⟩) 1 1 (Ev.cells ⟨who, 2, i, y, x, true⟩) rfl (src_at ⟨who, 2, i, y, x, true⟩ (size_set w5 ⟨g, i, none⟩ (.int .u64 (x))) rfl) (by have := hL.out; unfold maxLen; omega) (by have := hL.out; omega) ((HS.out.later (below_new (Below.refl _ _) _)).own.size) ?_; intro lv' w6 hG)
              have hA4 := (HS.out.later (below_new (Below.refl _ _) _)).append hG
              go_roundw
              case rel => exact ⟨n + 1, v5, lv', _, _, by omega, by go_num, rfl, hA4, by show _ = _; rw [List.length_set]; exact hC.out, by show _ ≤ _; rw [List.length_append]; exact Nat.succ_le_succ hL.out⟩
              case measure => simp [intOf]; omega
            ·
              have hq : (y == old) = false := by simpa using hyo
              have he : Ac.ev ⟨who, op, i, old, x⟩ y = ⟨who, 2, i, y, y, false⟩ := by simp [Ac.ev, h4, hyo]
              have hm' : Ac.num ⟨who, op, i, old, x⟩ y = 0 := by simp [Ac.num, h4]
              rw [hm'] at hn
              rw [he] at hb hc hl
              rw [h4] at hand
              have Hn := Lib.hid hn
              have Hb := Lib.hid hb
              have Hc := Lib.hid hc
              have Hl := Lib.hid hl
              clear hn hb hc hl he hm' HA
              (try clear hyo)
              go_wp2_with fail
              refine (do_any w.heap.size _ p c v C L _ hA1.own.mem Hok.out hA1.own.size (by have := hL.out; omega)).mono ?_
              rintro r w5 ⟨rfl, v5, hT⟩
              rw [Hn.out, Hb.out]
              have hA2 := hA1.touched hT
              rw [Hc.out, Hl.out] at hA2
              have hv := hvar hT.keep (fun h => Nat.lt_irrefl _ (hA.own.mem.foot _ h).2)
              obtain ⟨v0, v1, v2, v3, v4, vlt⟩ := hv
              have gc := hA2.row.cellAt i (by rw [Nat.mul_one]; exact Hi.out)
              rw [List.getElem?_map, Hy.out] at gc
              have gf := hA2.row.frozenAt i
              have HS := Lib.hid (hA2.store i (y))
              have HT' := Lib.hid hT
              have vne : wr.heap.size ≠ g := fun h => by have := (hA.row.lt g rfl).2; omega
              clear hA2 hT
              go_wp2_with (at_builtin; refine list_append_grew rfl _ _ 27 rfl w.heap.size 35 _ 6 48 elem_ev lv L.length (flatE L) rfl ((HS.out.later (below_new (Below.refl _ _) _)).log) (some ⟨_, 0, none⟩) 1 1 (Ev.cells ⟨who, 2, i, y, y, false⟩) rfl (src_at ⟨who, 2, i, y, y, false⟩ (size_set w5 ⟨g, i, none⟩ (.int .u64 (y))) rfl) (by have := hL.out; unfold maxLen; omega) (by have := hL.out; omega) ((HS.out.later (below_new (Below.refl _ _) _)).own.size) ?_; intro lv' w6 hG)
              have hA4 := (HS.out.later (below_new (Below.refl _ _) _)).append hG
              go_roundw
              case rel => exact ⟨n + 1, v5, lv', _, _, by omega, by go_num, rfl, hA4, by show _ = _; rw [List.length_set]; exact hC.out, by show _ ≤ _; rw [List.length_append]; exact Nat.succ_le_succ hL.out⟩
              case measure => simp [intOf]; omega
          ·
            have he : Ac.ev ⟨who, op, i, old, x⟩ y = ⟨who, 3, i, y, add64 y x, true⟩ := by simp [Ac.ev, h4]
            have hm' : Ac.num ⟨who, op, i, old, x⟩ y = y := by simp [Ac.num, h4]
            rw [hm'] at hn
            rw [he] at hb hc hl
            rw [h4] at hand
            have Hn := Lib.hid hn
            have Hb := Lib.hid hb
            have Hc := Lib.hid hc
            have Hl := Lib.hid hl
            clear hn hb hc hl he hm' HA
            (try clear hyo)
            go_wp2_with fail
            refine (do_any w.heap.size _ p c v C L _ hA1.own.mem Hok.out hA1.own.size (by have := hL.out; omega)).mono ?_
            rintro r w5 ⟨rfl, v5, hT⟩
            rw [Hn.out, Hb.out]
            have hA2 := hA1.touched hT
            rw [Hc.out, Hl.out] at hA2
            have hv := hvar hT.keep (fun h => Nat.lt_irrefl _ (hA.own.mem.foot _ h).2)
            obtain ⟨v0, v1, v2, v3, v4, vlt⟩ := hv
            have gc := hA2.row.cellAt i (by rw [Nat.mul_one]; exact Hi.out)
            rw [List.getElem?_map, Hy.out] at gc
            have gf := hA2.row.frozenAt i
            have HS := Lib.hid (hA2.store i (add64 y x))
            have HT' := Lib.hid hT
            have vne : wr.heap.size ≠ g := fun h => by have := (hA.row.lt g rfl).2; omega
            clear hA2 hT
            go_wp2_with (at_builtin; refine list_append_grew rfl _ _ 27 rfl w.heap.size 35 _ 6 48 elem_ev lv L.length (flatE L) rfl ((HS.out.later (below_new (Below.refl _ _) _)).log) (some ⟨_, 0, none⟩) 1 1 (Ev.cells ⟨who, 3, i, y, add64 y x, true⟩) rfl (src_at ⟨who, 3, i, y, add64 y x, true⟩ (size_set w5 ⟨g, i, none⟩ (.int .u64 (add64 y x))) rfl) (by have := hL.out; unfold maxLen; omega) (by have := hL.out; omega) ((HS.out.later (below_new (Below.refl _ _) _)).own.size) ?_; intro lv' w6 hG)
            have hA4 := (HS.out.later (below_new (Below.refl _ _) _)).append hG
            go_roundw
            case rel => exact ⟨n + 1, v5, lv', _, _, by omega, by go_num, rfl, hA4, by show _ = _; rw [List.length_set]; exact hC.out, by show _ ≤ _; rw [List.length_append]; exact Nat.succ_le_succ hL.out⟩
            case measure => simp [intOf]; omega
        · have ho : cell < 0 ∨ (m : Int) ≤ cell := by have := hC.out; omega
          have hn : Ac.n' ⟨who, op, cell, old, x⟩ C = 0 := by simp only [Ac.n', hin, if_false]
          have hb : Ac.b' ⟨who, op, cell, old, x⟩ C = !decide (op % 4 = 2) := by simp only [Ac.b', hin, if_false]
          have hc : Ac.cells' ⟨who, op, cell, old, x⟩ C = C := by simp only [Ac.cells', hin, if_false]
          have hl : Ac.log' ⟨who, op, cell, old, x⟩ C L = L := by simp only [Ac.log', hin, if_false]
          have Hn := Lib.hid hn
          have Hc := Lib.hid hc
          have Hl := Lib.hid hl
          clear hin hn hc hl
          rcases mod4 op with h4 | h4 | h4 | h4
          all_goals
            rw [h4] at hand hb
            have Hb := Lib.hid hb
            clear hb
            rcases ho with ho | ho
          all_goals
            go_wp2_with fail
            refine (do_any w.heap.size _ p c v C L _ hA1.own.mem Hok.out hA1.own.size (by have := hL.out; omega)).mono ?_
            rintro r w5 ⟨rfl, v5, hT⟩
            rw [Hn.out, Hb.out]
            have hA2 := hA1.touched hT
            rw [Hc.out, Hl.out] at hA2
            have hv := hvar hT.keep (fun h => Nat.lt_irrefl _ (hA.own.mem.foot _ h).2)
            obtain ⟨v0, v1, v2, v3, v4, vlt⟩ := hv
            have HA2 := Lib.hid hA2
            clear hT hA2
            go_wp2
            go_roundw
            case rel => exact ⟨n + 1, v5, lv, C, L, by omega, by go_num, rfl, HA2.out, hC, Nat.le_succ_of_le hL.out⟩
            case measure => simp [intOf]; omega
      · obtain rfl : n = len1 := by omega
        obtain ⟨A, cap, rfl⟩ := own_shape hA.log
        have hAE : AtE wr A L := AtE.row hA.log
        have HAE := Lib.hid hAE
        have hCo := hC.out
        have Hpk : Hid (∀ k, k < m → ∃ x, C[k]? = some x ∧ wr.cell? ⟨g, k, none⟩ = some (.int .u64 x)) := fun k hk => by
          have hk' : k < C.length := by omega
          refine ⟨C[k], List.getElem?_eq_getElem hk', ?_⟩
          have := hA.row.cellAt k (by omega)
          rw [List.getElem?_map, List.getElem?_eq_getElem hk'] at this
          exact this
        have HA := Lib.hid hA
        clear hA hAE hCo
        go_wp2_with fail
        go_loop [122] (fun i => ∃ k : Nat, k ≤ m ∧ i = .int .i64 k) (fun i => m - (intOf i).toNat)
        case atStart => exact ⟨0, by omega, rfl⟩
        case round =>
          obtain ⟨k, hk, rfl⟩ := hrel
          rcases Nat.lt_or_ge k m with hlt | hge
          · obtain ⟨x, hx, hcx⟩ := Hpk.out k hlt
            have Hx := Lib.hid hx
            clear hx
            have hlt' : (k : Int) < (m : Int) := by omega
            go_wp2_with fail
            refine (peek_in _ _ p c _ _ _ k x HA.out.own.mem Hx.out).mono ?_
            rintro r w' ⟨rfl, rfl⟩
            go_wp2
            go_round
            case rel => exact ⟨k + 1, by omega, by go_num⟩
            case measure => simp [intOf]; omega
          · obtain rfl : k = m := by omega
            go_wp2_with fail
            refine (log_any _ _ p c _ _ _ HA.out.own.mem (by have := hL.out; omega)).mono ?_
            rintro r w7 ⟨v7, rfl, ho7, hb7⟩
            obtain ⟨A7, cap7, rfl⟩ := own_shape ho7
            have hAE7 : AtE w7 A7 L := AtE.row ho7
            have HO7 : Hid (Own w w7 p c v C L) := HA.out.own.later hb7
            have HAE7 := Lib.hid (HAE.out.later hb7)
            have HAE7' := Lib.hid hAE7
            clear ho7 hb7 hAE7
            go_wp2_with fail
            refine (same_yes _ _ _ _ _ L HAE7'.out HAE7.out (by have := hL.out; omega)).mono ?_
            rintro r w8 ⟨rfl, hb8⟩
            have hO8 := HO7.out.later hb8
            clear hb8
            go_wp2_with fail
            refine (count_any _ _ p c _ _ _ hO8.mem).mono ?_
            rintro r w' ⟨rfl, rfl⟩
            go_wp2_with fail
            refine (peek_out _ _ p c _ _ _ (-1) hO8.mem (.inl (by decide))).mono ?_
            rintro r w' ⟨rfl, rfl⟩
            go_wp2_with fail
            refine (peek_out _ _ p c _ _ _ _ hO8.mem (.inr (by rw [hC.out]; exact Int.le_refl _))).mono ?_
            rintro r w' ⟨rfl, rfl⟩
            go_wp2_with fail
            refine (len_any _ _ p c _ _ _ hO8.mem).mono ?_
            rintro r w' ⟨rfl, rfl⟩
            rw [hC.out]
            have hbf := hO8.below
            clear hO8
            go_wp2
            go_ret
            exact ⟨rfl, hbf⟩

end Go.Proofs.Yteokinaneilgjaa
