/-
  MemApart answers true for every number, list of acts and cell, and leaves all memory that was there as it was. No condition.
-/
import Derived.Test.YteokinaneilgjaaMemBack2
namespace Go.Proofs.Yteokinaneilgjaa
open Go.RowKit
set_option linter.unusedVariables false

/-- Two memories that the call itself made, which have no block in common. -/
structure Two (w wr : World) (p c : Nat) (v : Value) (C : List Int) (L : List Ev) (p2 c2 : Nat) (v2 : Value) (D : List Int) (M : List Ev) : Prop where
  one : Own w wr p c v C L
  two : Own w wr p2 c2 v2 D M
  apart : ∀ k, Foot p c v k → ¬ Foot p2 c2 v2 k

theorem Two.later {w wr wr' : World} {p c v C L p2 c2 v2 D M} (h : Two w wr p c v C L p2 c2 v2 D M) (k : Below wr.heap.size wr wr') : Two w wr' p c v C L p2 c2 v2 D M :=
  ⟨h.one.later k, h.two.later k, h.apart⟩
theorem foot_new {w w' : World} {base : Nat} {p c : Nat} {v v' : Value} {C L} (h : Touched base w w' p c v v' C L) {k : Nat} (hf : Foot p c v' k) : Foot p c v k ∨ w.heap.size ≤ k := by
  rcases hf with h1 | h1 | h1
  · exact .inl (.inl h1)
  · exact .inl (.inr (.inl h1))
  · exact (h.moved k h1).imp (fun h => .inr (.inr h)) id
theorem Two.first {w wr wr' : World} {p c v C L p2 c2 v2 D M v' C' L'} (h : Two w wr p c v C L p2 c2 v2 D M) (k : Touched w.heap.size wr wr' p c v v' C' L') : Two w wr' p c v' C' L' p2 c2 v2 D M :=
  ⟨h.one.step k, h.two.elsewhere k.keep (fun i hi => (h.one.mem.foot i hi).1) (fun i hi hj => h.apart i hj hi), fun i hi hj => (foot_new k hi).elim (fun h1 => h.apart i h1 hj) (fun h1 => by have := (h.two.mem.foot i hj).2; omega)⟩
theorem Two.second {w wr wr' : World} {p c v C L p2 c2 v2 D M v' C' L'} (h : Two w wr p c v C L p2 c2 v2 D M) (k : Touched w.heap.size wr wr' p2 c2 v2 v' C' L') : Two w wr' p c v C L p2 c2 v' C' L' :=
  ⟨h.one.elsewhere k.keep (fun i hi => (h.two.mem.foot i hi).1) (fun i hi hj => h.apart i hi hj), h.two.step k, fun i hi hj => (foot_new k hj).elim (fun h1 => h.apart i hi h1) (fun h1 => by have := (h.one.mem.foot i hi).2; omega)⟩
theorem Two.made {w wr wr' : World} {p c v C L p2 c2 v2 D M} (h : Own w wr p c v C L) (hM : IsMem w.heap.size wr' p2 c2 v2 D M) (k : Below wr.heap.size wr wr') (hp : wr.heap.size ≤ p2) (hc : wr.heap.size ≤ c2) (hv : v2.ownBlock = none) : Two w wr' p c v C L p2 c2 v2 D M :=
  ⟨h.later k, Own.made h.below hM k, fun i hi hj => by
    have := (h.mem.foot i hi).2
    rcases hj with h1 | h1 | h1
    · omega
    · omega
    · rw [hv] at h1; cases h1⟩

/-- The one cell is the same in both; of the other memory all others are nought. -/
structure Same (C D : List Int) (i m : Nat) : Prop where
  len : C.length = m
  len2 : D.length = m
  at' : C.getD i 0 = D.getD i 0
  rest : ∀ j, j < m → j ≠ i → D.getD j 0 = 0

theorem getD_set (C : List Int) (i j : Nat) (x : Int) : (C.set i x).getD j 0 = if i = j ∧ j < C.length then x else C.getD j 0 := by
  rw [List.getD_eq_getElem?_getD, List.getElem?_set, List.getD_eq_getElem?_getD]
  by_cases h : i = j
  · subst h
    by_cases h2 : i < C.length
    · simp [h2]
    · simp [h2]
  · simp [h]

theorem Same.other {C D : List Int} {i m : Nat} (h : Same C D i m) (a : Ac) (ha : a.cell ≠ i) : Same (a.cells' C) D i m := by
  refine ⟨a.length C ▸ h.len, h.len2, ?_, h.rest⟩
  rw [← h.at']
  unfold Ac.cells'
  split
  · rw [getD_set, if_neg (by omega)]
  · rfl
theorem Same.both {C D : List Int} {i m : Nat} (h : Same C D i m) (a : Ac) (ha : a.cell = i) (hi : i < m) : Same (a.cells' C) (a.cells' D) i m := by
  have h1 := h.len
  have h2 := h.len2
  refine ⟨a.length C ▸ h.len, a.length D ▸ h.len2, ?_, fun j hj hne => ?_⟩
  · unfold Ac.cells'
    rw [if_pos (by omega), if_pos (by omega), ha, Int.toNat_natCast, getD_set, getD_set, if_pos ⟨rfl, by omega⟩, if_pos ⟨rfl, by omega⟩, h.at']
  · unfold Ac.cells'
    rw [if_pos (by omega), ha, Int.toNat_natCast, getD_set, if_neg (fun hh => hne hh.1.symm)]
    exact h.rest j hj hne

theorem log_both {C D : List Int} {L M : List Ev} (a : Ac) (h : M.length ≤ L.length) (hc : C.length = D.length) : (a.log' D M).length ≤ (a.log' C L).length := by
  unfold Ac.log'
  rw [hc]
  split
  · simp; omega
  · exact h
theorem log_other {C : List Int} {L M : List Ev} (a : Ac) (h : M.length ≤ L.length) : M.length ≤ (a.log' C L).length := by
  unfold Ac.log'
  split
  · simp; omega
  · exact h

theorem ret_bool3 {a : Bool} (h : a = true) : Ending.returned (.bool a) = .returned (.bool true) := by rw [h]

set_option maxRecDepth 100000 in
set_option maxHeartbeats 20000000 in
theorem walk_MemApart (a0 : Int) (a1 : Option Addr) (len1 cap1 : Nat) (a2 : Int) (w : World) (w0 : (Lit.int .i64 a0).wf = true) (w1 : IsRows w [.inl .i64, .inl .i64, .inl .i64, .inl .u64, .inl .u64] a1 len1 cap1) (w2 : (Lit.int .i64 a2).wf = true) :
    Calls Try.prog 9 #[.int .i64 a0, .slice a1 len1 cap1, .int .i64 a2] w fun e w' => e = .returned (.bool true) ∧ Below w.heap.size w w' := by
  have ha2 := bounds_i64 w2
  clear w0 w2
  by_cases hbig : 60 < len1
  · have hbig' : (60 : Int) < (len1 : Int) := by omega
    clear w1
    go_enter Try.func9, Try.ntmps9
    go_wp2_with fail
    refine (head3_any _).mono ?_
    rintro e w1 ⟨rfl, hb1⟩
    go_wp2_with fail
    go_ret
    exact ⟨rfl, hb1⟩
  · have p0 : decide ((60 : Int) < (len1 : Int)) = false := decide_eq_false (by omega)
    have W1 := Lib.hid w1
    obtain ⟨m0, hm, hm15⟩ : ∃ m : Nat, bits .and .i64 a0 15 = (m : Int) ∧ m ≤ 15 := ⟨(a0 % 16).toNat, by rw [show (15 : Int) = ((15 : Nat) : Int) from rfl, and_i64 a0 15 4 rfl (by decide)]; omega, by omega⟩
    obtain ⟨m, hm1⟩ : ∃ m : Nat, 1 + (m0 : Int) = (m : Int) := ⟨m0 + 1, by omega⟩
    obtain ⟨j, hj, hjm⟩ : ∃ j : Nat, wrap64 ((IntKind.u64.wrap a2).tmod (1 + (m0 : Int))) = (j : Int) ∧ j < m := by
      have h0 : 0 ≤ IntKind.u64.wrap a2 := by rw [IntKind.wrap_u64]; omega
      have h1 := Int.emod_nonneg (IntKind.u64.wrap a2) (show 1 + (m0 : Int) ≠ 0 by omega)
      have h2 := Int.emod_lt_of_pos (IntKind.u64.wrap a2) (show 0 < 1 + (m0 : Int) by omega)
      rw [Int.tmod_eq_emod_of_nonneg h0]
      refine ⟨(IntKind.u64.wrap a2 % (1 + (m0 : Int))).toNat, ?_, by omega⟩
      unfold wrap64
      omega
    have Hm1 := Lib.hid hm1
    have Hj := Lib.hid hj
    have hm16 : m ≤ 65536 := by omega
    have hjm' : (j : Int) < (m : Int) := by omega
    clear w1 hm1 hj
    go_enter Try.func9, Try.ntmps9
    go_wp2_with fail
    refine (head3_any _).mono ?_
    rintro e w1 ⟨rfl, hb1⟩
    go_wp2_with fail
    rw [Hj.out, Hm1.out]
    clear hm Hm1 Hj hm15
    refine (new_nat w.heap.size m _ _ hb1.size hm16 (.inl rfl)).mono ?_
    rintro r w2 ⟨p, c, rfl, hM2, hb2, hp, hc⟩
    have hO := Own.made hb1 hM2 hb2
    clear hM2 hb2 hb1 hp hc
    go_wp2_with fail
    refine (new_nat w.heap.size m _ _ hO.size hm16 (.inl rfl)).mono ?_
    rintro r w3 ⟨p2, c2, rfl, hM3, hb3, hp, hc⟩
    have hT0 := Two.made hO hM3 hb3 hp hc rfl
    clear hM3 hb3 hO hp hc
    have hS0 : Same (List.replicate m 0) (List.replicate m 0) j m := ⟨List.length_replicate, List.length_replicate, rfl, fun i hi _ => by rw [List.getD_eq_getElem?_getD, List.getElem?_replicate, if_pos hi]; rfl⟩
    have HS0 := Lib.hid hS0
    clear hS0
    go_wp2_with fail
    go_loopw [32] (fun i wr => ∃ (n : Nat) (v : Value) (C : List Int) (L : List Ev) (v2 : Value) (D : List Int) (M : List Ev), n ≤ len1 ∧ i = .int .i64 n ∧ Two w wr p c v C L p2 c2 v2 D M ∧ Hid (Same C D j m) ∧ Hid (M.length ≤ L.length) ∧ Hid (L.length ≤ n)) (fun i _ => len1 - (intOf i).toNat)
    case atStart => exact ⟨0, _, _, _, _, _, _, by omega, rfl, hT0, HS0.out, Nat.le_refl _, Nat.le_refl _⟩
    case round =>
      clear hT0 HS0
      obtain ⟨n, v, C, L, v2, D, M, hn, rfl, hT, hS, hML, hL⟩ := hrel
      rcases Nat.lt_or_ge n len1 with hlt | hge
      · obtain ⟨b, off, X, rfl, hcap, hX⟩ := rows_acts W1.out (by omega)
        obtain ⟨hx, hok⟩ := hX n hlt
        have hl := hx.lt
        have hx' := hx.later hT.one.below hl
        obtain ⟨c0, c1, c2', c3, c4, _⟩ := hx'
        clear hX hx
        generalize X n = a at *
        have Hok := Lib.hid hok
        clear hok
        obtain ⟨who, op, cell, old, x⟩ := a
        simp only at c0 c1 c2' c3 c4
        have HT1 : Hid (Two w (wr.alloc (.cells #[.int .i64 who, .int .i64 op, .int .i64 cell, .int .u64 old, .int .u64 x] 30)) p c v C L p2 c2 v2 D M) := hT.later (below_new (Below.refl _ _) _)
        have Hvar : Hid (∀ (T : Nat → Prop) (w' : World), Keep T (wr.alloc (.cells #[.int .i64 who, .int .i64 op, .int .i64 cell, .int .u64 old, .int .u64 x] 30)) w' → ¬ T wr.heap.size → AtA w' wr.heap.size 0 ⟨who, op, cell, old, x⟩) := fun T w' h hn =>
          ⟨h.cell (World.cell?_alloc_new wr _ _ 0) hn, h.cell (World.cell?_alloc_new wr _ _ 1) hn, h.cell (World.cell?_alloc_new wr _ _ 2) hn, h.cell (World.cell?_alloc_new wr _ _ 3) hn, h.cell (World.cell?_alloc_new wr _ _ 4) hn, by have := h.size; simp at this; omega⟩
        have HT := Lib.hid hT
        clear hT
        by_cases hcell : cell = j
        · have q1 : (cell == (j : Int)) = true := by simpa using hcell
          have Hcell := Lib.hid hcell
          clear hcell
          go_wp2_with fail
          refine (do_any w.heap.size _ p c v C L _ HT1.out.one.mem Hok.out HT1.out.one.size (by have := hL.out; omega)).mono ?_
          rintro r w5 ⟨rfl, v5, hT5⟩
          obtain ⟨e0, e1, e2, e3, e4, elt⟩ := Hvar.out _ _ hT5.keep (fun h => Nat.lt_irrefl _ (HT.out.one.mem.foot _ h).2)
          have HT5 := Lib.hid (HT1.out.first hT5)
          clear hT5
          go_wp2_with fail
          refine (do_any w.heap.size _ p2 c2 v2 D M _ HT5.out.two.mem Hok.out HT5.out.two.size (by have := hL.out; have := hML.out; omega)).mono ?_
          rintro r w6 ⟨rfl, v6, hT6⟩
          have HT6 := Lib.hid (HT5.out.second hT6)
          have HS6 := Lib.hid (hS.out.both ⟨who, op, cell, old, x⟩ Hcell.out hjm)
          have HML6 := Lib.hid (log_both ⟨who, op, cell, old, x⟩ hML.out (hS.out.len.trans hS.out.len2.symm))
          have HL6 : Hid ((Ac.log' ⟨who, op, cell, old, x⟩ C L).length ≤ n + 1) := Nat.le_trans (Ac.log_length _ _ _) (Nat.succ_le_succ hL.out)
          clear hT6
          go_wp2_with fail
          go_roundw
          case rel => exact ⟨n + 1, v5, _, _, v6, _, _, by omega, by go_num, HT6.out, HS6.out, HML6.out, HL6.out⟩
          case measure => simp [intOf]; omega
        · have q1 : (cell == (j : Int)) = false := by simpa using hcell
          have Hcell := Lib.hid hcell
          clear hcell
          go_wp2_with fail
          refine (do_any w.heap.size _ p c v C L _ HT1.out.one.mem Hok.out HT1.out.one.size (by have := hL.out; omega)).mono ?_
          rintro r w5 ⟨rfl, v5, hT5⟩
          obtain ⟨e0, e1, e2, e3, e4, elt⟩ := Hvar.out _ _ hT5.keep (fun h => Nat.lt_irrefl _ (HT.out.one.mem.foot _ h).2)
          have HT5 := Lib.hid (HT1.out.first hT5)
          have HS5 := Lib.hid (hS.out.other ⟨who, op, cell, old, x⟩ Hcell.out)
          have HML5 := Lib.hid (log_other (C := C) ⟨who, op, cell, old, x⟩ hML.out)
          have HL5 : Hid ((Ac.log' ⟨who, op, cell, old, x⟩ C L).length ≤ n + 1) := Nat.le_trans (Ac.log_length _ _ _) (Nat.succ_le_succ hL.out)
          clear hT5
          go_wp2_with fail
          go_roundw
          case rel => exact ⟨n + 1, v5, _, _, v2, _, _, by omega, by go_num, HT5.out, HS5.out, HML5.out, HL5.out⟩
          case measure => simp [intOf]; omega
      · obtain rfl : n = len1 := by omega
        have HT := Lib.hid hT
        clear hT
        have Hget : Hid (∀ (E : List Int) (k : Nat), E.length = m → k < m → E[k]? = some (E.getD k 0)) := fun E k hE hk => by
          rw [List.getD_eq_getElem?_getD, List.getElem?_eq_getElem (by omega)]
          rfl
        go_wp2_with fail
        go_loop [11] (fun i => ∃ k : Nat, k ≤ m ∧ i = .int .i64 k) (fun i => m - (intOf i).toNat)
        case atStart => exact ⟨0, by omega, rfl⟩
        case round =>
          obtain ⟨k, hk, rfl⟩ := hrel
          rcases Nat.lt_or_ge k m with hlt | hge
          · have hlt' : (k : Int) < (m : Int) := by omega
            by_cases hkj : k = j
            · have q1 : ((k : Int) != (j : Int)) = false := by simp [hkj]
              have q2 : ((k : Int) == (j : Int)) = true := by simp [hkj]
              clear hkj
              go_wp2
              go_round
              case rel => exact ⟨k + 1, by omega, by go_num⟩
              case measure => simp [intOf]; omega
            · have q1 : ((k : Int) != (j : Int)) = true := by simp; omega
              have q2 : ((k : Int) == (j : Int)) = false := by simp; omega
              have hz := Hget.out D k hS.out.len2 hlt
              rw [hS.out.rest k hlt hkj] at hz
              have Hz := Lib.hid hz
              clear hkj hz
              go_wp2_with fail
              refine (peek_in _ _ p2 c2 _ _ _ k 0 HT.out.two.mem Hz.out).mono ?_
              rintro r w' ⟨rfl, rfl⟩
              go_wp2
              go_round
              case rel => exact ⟨k + 1, by omega, by go_num⟩
              case measure => simp [intOf]; omega
          · obtain rfl : k = m := by omega
            have h1 := Hget.out C j hS.out.len hjm
            have h2 := Hget.out D j hS.out.len2 hjm
            rw [← hS.out.at'] at h2
            have H1 := Lib.hid h1
            have H2 := Lib.hid h2
            have hle : (M.length : Int) ≤ (L.length : Int) := by have := hML.out; omega
            clear h1 h2
            generalize C.getD j 0 = y at *
            go_wp2_with fail
            refine (peek_in _ _ p c _ _ _ j y HT.out.one.mem H1.out).mono ?_
            rintro r w' ⟨rfl, rfl⟩
            go_wp2_with fail
            refine (peek_in _ _ p2 c2 _ _ _ j y HT.out.two.mem H2.out).mono ?_
            rintro r w' ⟨rfl, rfl⟩
            go_wp2_with fail
            refine (count_any _ _ p2 c2 _ _ _ HT.out.two.mem).mono ?_
            rintro r w' ⟨rfl, rfl⟩
            go_wp2_with fail
            refine (count_any _ _ p c _ _ _ HT.out.one.mem).mono ?_
            rintro r w' ⟨rfl, rfl⟩
            go_wp2
            go_ret
            exact ⟨ret_bool3 (by first | rfl | (simp only [decide_eq_true_eq]; omega)), HT.out.one.below⟩

end Go.Proofs.Yteokinaneilgjaa
