/-
  Contracts of the library's strings.Builder at a builder that a call has made itself: a text written behind what it holds; what it holds as a text. No condition but that there are no more than a million bytes.
-/
import Derived.Test.YtkdfgdhfjaapiaaDoorTextBld
namespace Go.Proofs.YtkdfgdhfjaapiaaDoor
open Go.RowKit
set_option linter.unusedVariables false

theorem strCells_bytes (s : ByteArray) : Lib.strCells s = Lib.byteCells s.data.toList := rfl
theorem size_list (s : ByteArray) : s.data.toList.length = s.size := Array.length_toList

theorem run_append_str (w : World) (base : Nat) (ty : TypeId) (v : Value) (n : Nat) (xs : List Value) (h : w.ownsRow base 5 1 v n xs) (s : ByteArray) (hn : n + s.size ≤ 2000000) (hb : base ≤ w.heap.size) :
    ∃ v' w', (Builtin.append_ #[43, 9] ty #[v, .string s]).run Tryd.prog w = .ok v' w' ∧ AppR base w w' v v' (n + s.size) (xs ++ Lib.strCells s) ∧ (v' = .slice none 0 0 ↔ v = .slice none 0 0 ∧ s.size = 0) := by
  obtain ⟨i, hi, hz, hs, hby⟩ := elem_u8.info
  obtain ⟨v', w', hr, h2, h3, h4⟩ := Lib.run_append_own_string (P := Tryd.prog) w base 43 9 ty 5 i Tryd.underlying43 Tryd.underlying9 hi hz hs hby v n xs h s (by unfold maxLen; omega) (by omega) hb
  refine ⟨v', w', hr, ⟨h2, Keep.of_grown h3 (fun k hk => hk), fun k hk => ?_⟩, h4⟩
  rcases h.2 with ⟨rfl, rfl⟩ | ⟨g, cap, cur, rfl, hg, hh, hnc, hcm, hcs, hcur⟩
  · obtain ⟨v2, w2, hr2, k2, _⟩ := Lib.run_append_own_string (P := Tryd.prog) w w.heap.size 43 9 ty 5 i Tryd.underlying43 Tryd.underlying9 hi hz hs hby _ 0 xs ⟨h.1, .inl ⟨rfl, rfl⟩⟩ s (by unfold maxLen; omega) (by omega) (Nat.le_refl _)
    rw [hr] at hr2
    cases hr2
    exact .inr (k2.lt k hk).1
  · by_cases hroom : n + s.size ≤ cap
    · have hr2 := Lib.run_append_room_string (P := Tryd.prog) w 43 9 ty 5 i Tryd.underlying43 Tryd.underlying9 hi hs g n cap cur hh s hroom (by omega)
      rw [hr] at hr2
      cases hr2
      exact .inl hk
    · have hxl : xs.length = n * i.size := by rw [h.1, hs]
      have hr2 := Lib.run_append_grow_string (P := Tryd.prog) w 43 9 ty 5 i (.int .u8 0) Tryd.underlying43 Tryd.underlying9 hi hz ⟨g, 0, none⟩ n cap xs hxl (h.cells (g := g) rfl) s (by omega) (by omega) (by rw [hby]; exact growslice_fits (by omega) (by omega))
      rw [hr] at hr2
      cases hr2
      cases hk
      exact .inr (Nat.le_refl _)
structure NilIff (v v' : Value) (s : ByteArray) : Prop where
  iff : v' = .slice none 0 0 ↔ v = .slice none 0 0 ∧ s.size = 0
theorem list_append_str {ops : Array Oper} {rest : List Oper} {o : Oper} {a : Act} {w : World} {Q : Exit → Act → World → Prop} (hg : o.guard = none) (sl x : Operand)
    (ho : o.op = .call { callee := .builtin .append, args := #[sl, x], argTypes := #[43, 9] })
    (base : Nat) (v : Value) (n : Nat) (xs : List Value) (hs : a.eval sl = v) (h : w.ownsRow base 5 1 v n xs) (s : ByteArray) (hx : a.eval x = .string s) (hn : n + s.size ≤ 2000000) (hb : base ≤ w.heap.size)
    (hK : ∀ v' w', AppR base w w' v v' (n + s.size) (xs ++ Lib.strCells s) → NilIff v v' s → wpList Tryd.prog ops Q rest (a.put o.dst v') w') : wpList Tryd.prog ops Q (o :: rest) a w := by
  refine wpList_plain hg fun K hK' => ?_
  obtain ⟨v', w', hr, h2, h3⟩ := run_append_str w base o.type v n xs h s hn hb
  unfold Oper.wp execOp
  simp only [ho, resolve, invoke, builtin, Sem.run_bind, Sem.run_pure, Result.andThen_ok, List.map_toArray, List.map_cons, List.map_nil, hs, hx, hr]
  exact hK' _ _ (hK v' w' h2 ⟨h3⟩)

set_option maxHeartbeats 4000000 in
set_option maxRecDepth 100000 in
/-- A text behind what a builder holds. -/
theorem wstr_any (base b : Nat) (p v : Value) (l : Bs) (s : ByteArray) (w : World) (h : BAt base b p v l w) (hl : l.length + s.size ≤ 1000000) (hb : base ≤ w.heap.size) :
    Calls Tryd.prog 18 #[pt b, .string s] w fun e w' => e = .returned (.tuple #[.int .i64 s.size, .nilIface]) ∧ ∃ v', BWr base b v (l ++ s.data.toList) w w' v' := by
  go_enter Tryd.func18, Tryd.ntmps18
  go_wp2_with (go_at_call 23; refine (copy_any base b p v l _ h).mono ?_)
  rintro e w1 ⟨rfl, h1, k1⟩
  obtain ⟨ao, cap, hvv⟩ := own_shape h1.own
  have c0 : w1.cell? ⟨b, 0, none⟩ = some (pt b) := by rw [Lib.cell_of_heap h1.blk]; rfl
  have c1 : w1.cell? ⟨b, 1, none⟩ = some (.slice ao l.length cap) := by rw [Lib.cell_of_heap h1.blk, ← hvv]; rfl
  have ho1 : w1.ownsRow base 5 1 (.slice ao l.length cap) l.length (Lib.byteCells l) := hvv ▸ h1.own
  have hb1 : base ≤ w1.heap.size := Nat.le_trans hb k1.size
  go_wp2_with (at_builtin; go_loud (refine list_append_str rfl _ _ rfl base (.slice ao l.length cap) l.length (Lib.byteCells l) rfl ho1 s rfl (by omega) hb1 ?_))
  intro v' w2 hA hnil
  rw [← hvv, strCells_bytes, ← Lib.byteCells_append, ← size_list, ← List.length_append] at hA
  have hb2 : w2.heap[b]? = some (.cells #[pt b, v] 45 (0, 0)) := (hA.keep.block b h1.lt (fun e => h1.ne e)).trans h1.blk
  have d0 : w2.cell? ⟨b, 0, none⟩ = some (pt b) := by rw [Lib.cell_of_heap hb2]; rfl
  have d1 : w2.cell? ⟨b, 1, none⟩ = some (.slice ao l.length cap) := by rw [Lib.cell_of_heap hb2, ← hvv]; rfl
  have f1 : w2.frozen? ⟨b, 1, none⟩ = false := Lib.frozen_of_heap hb2 1
  have hnil' : l ++ s.data.toList = [] → v' = .slice none 0 0 := fun e => by
    obtain ⟨e1, e2⟩ := List.append_eq_nil_iff.1 e
    refine hnil.iff.2 ⟨by rw [← hvv]; exact h1.nil e1, ?_⟩
    rw [← size_list, e2]; rfl
  obtain ⟨ao', cap', hv'⟩ := own_shape hA.own
  subst hv'
  have HA := Lib.hid hA
  have H1 := Lib.hid h1
  have HN := Lib.hid hnil'
  clear hA h1 ho1 hnil hnil'
  go_wp2
  go_ret2
  exact ⟨rfl, _, BWr.put (l' := l ++ s.data.toList) H1.out k1 (by have := HA.out; rw [List.length_append] at this ⊢; exact this) (by have := HN.out; rw [List.length_append] at this; exact this)⟩

set_option maxHeartbeats 4000000 in
set_option maxRecDepth 100000 in
/-- What a builder holds, as a text. -/
theorem bstr_any (base b : Nat) (p v : Value) (l : Bs) (w : World) (h : BAt base b p v l w) :
    Calls Tryd.prog 20 #[pt b] w fun e w' => e = .returned (.string ⟨l.toArray⟩) ∧ Keep (fun k => v.ownBlock = some k) w w' := by
  rcases h.own.2 with ⟨hv, hl0⟩ | ⟨g, cap, cur, hv, hg, hh, hnc, hcm, hcs, hcur⟩
  · have hl : l = [] := List.eq_nil_of_length_eq_zero hl0
    subst hl hv
    have hUS : ∀ W : World, (Builtin.unsafeString_ #[55, 3] 9 #[.pointer none, .int .i64 0]).run Tryd.prog W = .ok (.string .empty) W := fun W => Lib.run_unsafeString_none W _ _ _ none
    have c1 : w.drew.cell? ⟨b, 1, none⟩ = some (.slice none 0 0) := by
      have : w.drew.heap[b]? = some (.cells #[p, .slice none 0 0] 45 (0, 0)) := h.blk
      rw [Lib.cell_of_heap this]; rfl
    have hSD : (Builtin.unsafeSliceData_ #[43] 55 #[.slice none 0 0]).run Tryd.prog w.drew = .ok (.pointer none) w.drew := rfl
    go_enter Tryd.func20, Tryd.ntmps20
    go_wp2
    go_region
    all_goals (go_wp2; go_ret; exact ⟨rfl, (Keep.refl _ _).drew⟩)
  · subst hv
    have hl0 : l ≠ [] := fun e => by have := h.nil e; cases this
    have hsh : w.drew.shape? g = some (5, cur.size) := by
      have hg' : w.drew.heap[g]? = some (.cells cur 5 (0, 0)) := hh
      simp [World.shape?, hg']
    have c1 : w.drew.cell? ⟨b, 1, none⟩ = some (.slice (some ⟨g, 0, none⟩) l.length cap) := by
      have : w.drew.heap[b]? = some (.cells #[p, .slice (some ⟨g, 0, none⟩) l.length cap] 45 (0, 0)) := h.blk
      rw [Lib.cell_of_heap this]; rfl
    have hlp : 0 < l.length := List.length_pos_iff.2 hl0
    have hSD : (Builtin.unsafeSliceData_ #[43] 55 #[.slice (some ⟨g, 0, none⟩) l.length cap]).run Tryd.prog w.drew = .ok (.pointer (some ⟨g, 0, none⟩)) w.drew :=
      Lib.run_unsafeSliceData_row _ _ _ _ _ _ (by omega)
    have hUS : (Builtin.unsafeString_ #[55, 3] 9 #[.pointer (some ⟨g, 0, none⟩), .int .i64 l.length]).run Tryd.prog w.drew = .ok (.string ⟨l.toArray⟩) (w.drew.freeze ⟨g, 0, none⟩ l.length) := by
      refine Lib.run_unsafeString_row w.drew 55 3 9 5 Tryd.underlying55 (by kernel_rfl) g cur.size hsh l hl0 (by omega) (by unfold maxLen at hcm; omega) ?_
      intro j x hx
      exact h.own.cells (g := g) rfl j (.int .u8 x.toNat) (by simp [Lib.byteCells, hx])
    have k : Keep (fun k => (Value.slice (some ⟨g, 0, none⟩) l.length cap).ownBlock = some k) w (w.drew.freeze ⟨g, 0, none⟩ l.length) := by
      refine ⟨?_, ?_, ?_, ?_, fun j hj hn => ?_⟩
      · unfold World.freeze; split <;> rfl
      · unfold World.freeze; split <;> rfl
      · unfold World.freeze; split <;> rfl
      · unfold World.freeze; split <;> simp
      · unfold World.freeze
        split
        · rfl
        · show (w.drew.heap.modify g _)[j]? = _
          rw [Array.getElem?_modify, if_neg (fun e => hn (by rw [← e]; rfl))]
          rfl
    go_enter Tryd.func20, Tryd.ntmps20
    go_wp2
    go_region
    all_goals (go_wp2; go_ret; exact ⟨rfl, k⟩)
end Go.Proofs.YtkdfgdhfjaapiaaDoor
