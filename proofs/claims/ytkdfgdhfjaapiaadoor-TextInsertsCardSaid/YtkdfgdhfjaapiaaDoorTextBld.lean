/-
  Contracts of the library's strings.Builder at a builder that a call has made itself: a sign, a text written behind what it holds, and what it holds as a text; WITH WHAT IS KEPT, so several builders can be held side by side. No condition but that there are no more than a million bytes, and that what is written is a sign.
-/
import Derived.Test.YtkdfgdhfjaapiaaDoorRows2
import Derived.Test.YtkdfgdhfjaapiaaDoorSignLib
import Derived.Lib.Builder
import Derived.Lib.UnsafeStr
import Derived.Lib.OthersKept
import Derived.Lib.AppendStr
import Derived.RegionTactic
namespace Go.Proofs.YtkdfgdhfjaapiaaDoor
open Go.RowKit
set_option linter.unusedVariables false

theorem elem_u8 : ElemAt Tryd.prog 43 5 (.int .u8 0) 1 1 := ElemAt.mk' Tryd.underlying43 (by kernel_rfl) rfl (by decide)
theorem info_bld : ∃ j, Tryd.prog.info? 45 = some j ∧ j.size = 2 := Option.map_eq_some_iff.1 (show (Tryd.prog.info? 45).map (·.size) = some 2 by kernel_rfl)

/-- What an append to a row of bytes does. -/
structure AppR (base : Nat) (w w' : World) (v v' : Value) (n : Nat) (xs : List Value) : Prop where
  own : w'.ownsRow base 5 1 v' n xs
  keep : Keep (fun k => v.ownBlock = some k) w w'
  moved : Moved w v v'
theorem AppR.of {base : Nat} {w w1 w' : World} {v v' : Value} {n : Nat} {xs : List Value} (hb : Below w.heap.size w w1) (h : Grew w1 w' base 5 1 v v' n xs) : AppR base w w' v v' n xs :=
  ⟨h.own, (Keep.of_below hb).trans (Keep.of_grown h.grown (fun k hk => hk)), fun k hk => (h.moved k hk).imp id (fun hl => Nat.le_trans hb.size hl)⟩
theorem own_new {w : World} {base n : Nat} {v : Value} {xs : List Value} (h : w.ownsRow base 5 1 v n xs) (o : Obj) : (w.alloc o).ownsRow base 5 1 v n xs := (Keep.of_below (T := fun _ => False) (below_new (Below.refl _ _) _)).row h (fun _ _ h => h)
theorem src_bytes (w : World) (cs : List Value) (m : Nat) (hl : cs.length = m) (h1 : ∀ u ∈ cs, u.oneCell' = true) : Src (w.alloc (.cells cs.toArray 5)) 1 (some ⟨w.heap.size, 0, none⟩) m cs :=
  src_list w cs _ 1 m (by omega) h1
theorem one_runes (r : Int) : ∀ u ∈ Lib.runeCells r, u.oneCell' = true := fun u hu => by
  obtain ⟨x, _, rfl⟩ := List.mem_map.1 hu
  rfl

set_option maxHeartbeats 4000000 in
set_option maxRecDepth 100000 in
theorem narune_any (base : Nat) (v : Value) (n : Nat) (xs : List Value) (r : Int) (h0 : 128 ≤ r) (hv : r < 55296 ∨ 57343 < r ∧ r ≤ 1114111) (w : World) (h : w.ownsRow base 5 1 v n xs) (hn : n ≤ 1000000) (hb : base ≤ w.heap.size) :
    Calls Tryd.prog 28 #[v, .int .i32 r] w fun e w' => ∃ v', e = .returned v' ∧ AppR base w w' v v' (n + (Lib.runeCells r).length) (xs ++ Lib.runeCells r) := by
  have h1 := one_runes r
  have cases : r ≤ 2047 ∨ (2048 ≤ r ∧ r < 55296) ∨ (57343 < r ∧ r ≤ 65535) ∨ (65536 ≤ r ∧ r ≤ 1114111) := by omega
  rcases cases with c | c | c | c
  · have e : Lib.runeCells r = [.int .u8 (192 + r / 64), .int .u8 (128 + r % 64)] := by simp [Lib.runeCells, Lib.encodeRuneZ_two h0 c]
    rw [e] at h1 ⊢
    go_enter Tryd.func28, Tryd.ntmps28
    go_wp2_with (at_builtin; refine list_append_grew rfl _ _ 43 rfl base 5 _ 1 1 elem_u8 v n xs rfl (own_new h _) (some ⟨w.heap.size, 0, none⟩) 2 2 [.int .u8 (192 + r / 64), .int .u8 (128 + r % 64)] rfl (src_bytes _ _ _ rfl h1) (by unfold maxLen; omega) (by omega) (by simp; omega) ?_; intro v' w2 hG)
    go_wp2
    go_ret
    exact ⟨_, rfl, AppR.of (below_new (Below.refl _ _) _) hG⟩
  · have e : Lib.runeCells r = [.int .u8 (224 + r / 4096), .int .u8 (128 + r / 64 % 64), .int .u8 (128 + r % 64)] := by simp [Lib.runeCells, Lib.encodeRuneZ_three (Or.inl c)]
    obtain ⟨c0, c1⟩ := c
    rw [e] at h1 ⊢
    go_enter Tryd.func28, Tryd.ntmps28
    go_wp2_with (at_builtin; refine list_append_grew rfl _ _ 43 rfl base 5 _ 1 1 elem_u8 v n xs rfl (own_new h _) (some ⟨w.heap.size, 0, none⟩) 3 3 [.int .u8 (224 + r / 4096), .int .u8 (128 + r / 64 % 64), .int .u8 (128 + r % 64)] rfl (src_bytes _ _ _ rfl h1) (by unfold maxLen; omega) (by omega) (by simp; omega) ?_; intro v' w2 hG)
    go_wp2
    go_ret
    exact ⟨_, rfl, AppR.of (below_new (Below.refl _ _) _) hG⟩
  · have e : Lib.runeCells r = [.int .u8 (224 + r / 4096), .int .u8 (128 + r / 64 % 64), .int .u8 (128 + r % 64)] := by simp [Lib.runeCells, Lib.encodeRuneZ_three (Or.inr c)]
    obtain ⟨c0, c1⟩ := c
    rw [e] at h1 ⊢
    go_enter Tryd.func28, Tryd.ntmps28
    go_wp2_with (at_builtin; refine list_append_grew rfl _ _ 43 rfl base 5 _ 1 1 elem_u8 v n xs rfl (own_new h _) (some ⟨w.heap.size, 0, none⟩) 3 3 [.int .u8 (224 + r / 4096), .int .u8 (128 + r / 64 % 64), .int .u8 (128 + r % 64)] rfl (src_bytes _ _ _ rfl h1) (by unfold maxLen; omega) (by omega) (by simp; omega) ?_; intro v' w2 hG)
    go_wp2
    go_ret
    exact ⟨_, rfl, AppR.of (below_new (Below.refl _ _) _) hG⟩
  · obtain ⟨c0, c1⟩ := c
    have e : Lib.runeCells r = [.int .u8 (240 + r / 262144), .int .u8 (128 + r / 4096 % 64), .int .u8 (128 + r / 64 % 64), .int .u8 (128 + r % 64)] := by simp [Lib.runeCells, Lib.encodeRuneZ_four c0 c1]
    rw [e] at h1 ⊢
    go_enter Tryd.func28, Tryd.ntmps28
    go_wp2_with (at_builtin; refine list_append_grew rfl _ _ 43 rfl base 5 _ 1 1 elem_u8 v n xs rfl (own_new h _) (some ⟨w.heap.size, 0, none⟩) 4 4 [.int .u8 (240 + r / 262144), .int .u8 (128 + r / 4096 % 64), .int .u8 (128 + r / 64 % 64), .int .u8 (128 + r % 64)] rfl (src_bytes _ _ _ rfl h1) (by unfold maxLen; omega) (by omega) (by simp; omega) ?_; intro v' w2 hG)
    go_wp2
    go_ret
    exact ⟨_, rfl, AppR.of (below_new (Below.refl _ _) _) hG⟩

set_option maxHeartbeats 4000000 in
set_option maxRecDepth 100000 in
theorem arune_any (base : Nat) (v : Value) (n : Nat) (xs : List Value) (r : Int) (h0 : 0 ≤ r) (hv : r < 55296 ∨ 57343 < r ∧ r ≤ 1114111) (w : World) (h : w.ownsRow base 5 1 v n xs) (hn : n ≤ 1000000) (hb : base ≤ w.heap.size) :
    Calls Tryd.prog 24 #[v, .int .i32 r] w fun e w' => ∃ v', e = .returned v' ∧ AppR base w w' v v' (n + (Lib.runeCells r).length) (xs ++ Lib.runeCells r) := by
  by_cases c : r ≤ 127
  · have h1 := one_runes r
    have e : Lib.runeCells r = [.int .u8 r] := by simp [Lib.runeCells, Lib.encodeRuneZ_one h0 c]
    rw [e] at h1 ⊢
    go_enter Tryd.func24, Tryd.ntmps24
    go_wp2_with (at_builtin; refine list_append_grew rfl _ _ 43 rfl base 5 _ 1 1 elem_u8 v n xs rfl (own_new h _) (some ⟨w.heap.size, 0, none⟩) 1 1 [.int .u8 r] rfl (src_bytes _ _ _ rfl h1) (by unfold maxLen; omega) (by omega) (by simp; omega) ?_; intro v' w2 hG)
    go_wp2
    go_ret
    exact ⟨_, rfl, AppR.of (below_new (Below.refl _ _) _) hG⟩
  · have hr0 : (128 : Int) ≤ r := by omega
    go_enter Tryd.func24, Tryd.ntmps24
    go_wp2_with (go_at_call 28; refine (narune_any base v n xs r hr0 hv _ h hn hb).mono ?_; rintro e w1 ⟨v', rfl, hA⟩)
    go_wp2
    go_ret
    exact ⟨_, rfl, hA⟩

/-- A builder in a block: it holds these bytes. -/
structure BAt (base b : Nat) (p v : Value) (l : Bs) (w : World) : Prop where
  le : base ≤ b
  ptr : p = .pointer none ∨ p = pt b
  blk : w.heap[b]? = some (.cells #[p, v] 45 (0, 0))
  own : w.ownsRow base 5 1 v l.length (Lib.byteCells l)
  ne : v.ownBlock ≠ some b
  nil : l = [] → v = .slice none 0 0

section
variable {base b : Nat} {p v : Value} {l : Bs} {w w' : World}
theorem BAt.lt (h : BAt base b p v l w) : b < w.heap.size := (Array.getElem?_eq_some_iff.1 h.blk).1
theorem BAt.keep {T : Nat → Prop} (h : BAt base b p v l w) (k : Keep T w w') (hb : ¬ T b) (hv : ∀ i, v.ownBlock = some i → ¬ T i) : BAt base b p v l w' :=
  ⟨h.le, h.ptr, (k.block b h.lt hb).trans h.blk, k.row h.own hv, h.ne, h.nil⟩
theorem BAt.later (h : BAt base b p v l w) (hb : Below w.heap.size w w') : BAt base b p v l w' :=
  h.keep (T := fun _ => False) (Keep.of_below hb) (fun h => h) (fun _ _ h => h)
theorem heap_set (w : World) (b : Nat) (cs : Array Value) (t : TypeId) (i : Nat) (x : Value) (h : w.heap[b]? = some (.cells cs t (0, 0))) : (w.setCell ⟨b, i, none⟩ x).heap[b]? = some (.cells (cs.setIfInBounds i x) t (0, 0)) := by
  simp [World.setCell, Array.getElem?_modify, h]
/-- Made by 'var b strings.Builder'. -/
theorem BAt.made (w : World) (base : Nat) (hb : base ≤ w.heap.size) : BAt base w.heap.size (.pointer none) (.slice none 0 0) [] (w.alloc (.cells #[.pointer none, .slice none 0 0] 45)) :=
  ⟨hb, .inl rfl, heap_alloc_new _ _, ⟨rfl, .inl ⟨rfl, rfl⟩⟩, by simp [Value.ownBlock], fun _ => rfl⟩
end

def tBld (base b : Nat) (p v : Value) (l : Bs) : Thing := ⟨BAt base b p v l, fun k => k = b ∨ v.ownBlock = some k⟩
theorem tBld_ok (base b : Nat) (p v : Value) (l : Bs) : (tBld base b p v l).Ok base :=
  ⟨fun _ _ T h k hn => h.keep k (hn b (.inl rfl)) (fun i hi => hn i (.inr hi)), fun w i h hi => by
    rcases hi with rfl | hi
    · exact ⟨h.le, h.lt⟩
    · exact h.own.lt i hi⟩
/-- A range's iterator. -/
def tIt (base k : Nat) (s : ByteArray) (pos : Nat) : Thing := ⟨fun w => w.heap[k]? = some (.stringIter s pos) ∧ base ≤ k, fun i => i = k⟩
theorem tIt_ok (base k : Nat) (s : ByteArray) (pos : Nat) : (tIt base k s pos).Ok base :=
  ⟨fun _ _ T h e hn => ⟨(e.block k (Array.getElem?_eq_some_iff.1 h.1).1 (hn k rfl)).trans h.1, h.2⟩, fun w i h hi => by cases hi; exact ⟨h.2, (Array.getElem?_eq_some_iff.1 h.1).1⟩⟩
theorem Hold.next {W w : World} {L : List Thing} (h : Hold W w L) (i : Nat) {k : Nat} {s : ByteArray} {pos : Nat} (hi : L[i]? = some (tIt W.heap.size k s pos)) (pos' : Nat) : Hold W (w.iterAt k s pos') (L.set i (tIt W.heap.size k s pos')) :=
  h.turn i hi ⟨rfl, rfl, rfl, by rw [Lib.iterAt_size]; exact Nat.le_refl _, fun j _ hn => Lib.iterAt_other w k j s pos' hn⟩ (tIt_ok _ _ _ _)
    ⟨Lib.iterAt_heap w k s pos pos' ((h.has i _ hi : _ ∧ _).1), (h.has i _ hi : _ ∧ _).2⟩ (fun q hq => .inl hq)

set_option maxRecDepth 100000 in
theorem copy_used (b : Nat) (w : World) (h0 : w.cell? ⟨b, 0, none⟩ = some (pt b)) : Calls Tryd.prog 23 #[pt b] w fun e w' => e = .returned (.tuple #[]) ∧ w' = w := by
  obtain ⟨j, hj, _⟩ := info_bld
  go_enter Tryd.func23, Tryd.ntmps23
  go_wp2
  rw [Lib.run_neq_ptr_same w _ Tryd.underlying42 hj]
  go_wp2
  go_end0
  exact ⟨rfl, rfl⟩
set_option maxRecDepth 100000 in
theorem copy_fresh (b : Nat) (w : World) (h0 : w.cell? ⟨b, 0, none⟩ = some (.pointer none)) (hsh : w.shape? b = some (45, 2)) (hfz : w.frozen? ⟨b, 0, none⟩ = false) :
    Calls Tryd.prog 23 #[pt b] w fun e w' => e = .returned (.tuple #[]) ∧ w' = w.setCell ⟨b, 0, none⟩ (pt b) := by
  obtain ⟨j, hj, hjs⟩ := info_bld
  have hlies : liesAt Tryd.prog Tryd.prog.depth 45 (2 / Tryd.prog.cellsOf 45) 0 45 1 = true := by kernel_rfl
  go_enter Tryd.func23, Tryd.ntmps23
  go_wp2
  rw [Lib.run_to_unsafe w ⟨b, 0, none⟩ Tryd.underlying42 Tryd.underlying61 hj (by rw [hjs]; decide) hsh (Nat.zero_lt_succ 1)]
  simp only [Result.andThen]
  rw [Oper.upon_value]
  go_wp2
  rw [run_callFunc_extern Tryd.func27 (by kernel_rfl) (by kernel_rfl) (by kernel_rfl) (e := Extern.AbiNoEscape.same) (by kernel_rfl)]
  rw [Lib.run_noEscape]
  simp only [Result.andThen]
  rw [Oper.upon_value]
  go_wp2
  rw [Lib.run_from_unsafe w ⟨b, 0, none⟩ Tryd.underlying61 Tryd.underlying42 hj hsh hlies]
  simp only [Result.andThen]
  rw [Oper.upon_value]
  go_wp2
  go_end0
  exact ⟨rfl, rfl⟩
theorem copy_any (base b : Nat) (p v : Value) (l : Bs) (w : World) (h : BAt base b p v l w) :
    Calls Tryd.prog 23 #[pt b] w fun e w' => e = .returned (.tuple #[]) ∧ BAt base b (pt b) v l w' ∧ Keep (fun k => k = b) w w' := by
  rcases h.ptr with rfl | rfl
  · refine (copy_fresh b w (by rw [Lib.cell_of_heap h.blk]; rfl) (by simp [World.shape?, h.blk]) (Lib.frozen_of_heap h.blk 0)).mono ?_
    rintro e w' ⟨rfl, rfl⟩
    have k : Keep (fun k => k = b) w (w.setCell ⟨b, 0, none⟩ (pt b)) := (Keep.refl (fun k => k = b) w).setCell ⟨b, 0, none⟩ (show b = b from rfl) _
    exact ⟨rfl, ⟨h.le, .inr rfl, heap_set w b _ _ 0 _ h.blk, k.row h.own (fun i hi e => h.ne (by rw [hi, e])), h.ne, h.nil⟩, k⟩
  · refine (copy_used b w (by rw [Lib.cell_of_heap h.blk]; rfl)).mono ?_
    rintro e w' ⟨rfl, rfl⟩
    exact ⟨rfl, h, Keep.refl _ _⟩

/-- What a write to a builder does. -/
structure BWr (base b : Nat) (v : Value) (l : Bs) (w w' : World) (v' : Value) : Prop where
  at' : BAt base b (pt b) v' l w'
  keep : Keep (fun k => k = b ∨ v.ownBlock = some k) w w'
  moved : Moved w v v'
theorem BWr.put {base b : Nat} {v v' : Value} {l l' : Bs} {w w1 w2 : World} (h1 : BAt base b (pt b) v l w1) (k1 : Keep (fun k => k = b) w w1) (hA : AppR base w1 w2 v v' l'.length (Lib.byteCells l')) (hne : l' = [] → v' = .slice none 0 0) :
    BWr base b v l' w (w2.setCell ⟨b, 1, none⟩ v') v' := by
  have hb2 : w2.heap[b]? = some (.cells #[pt b, v] 45 (0, 0)) := (hA.keep.block b h1.lt (fun e => h1.ne e)).trans h1.blk
  have hnb : v'.ownBlock ≠ some b := fun e => (hA.moved b e).elim h1.ne (fun hl => by have := h1.lt; omega)
  have k3 : Keep (fun k => k = b) w2 (w2.setCell ⟨b, 1, none⟩ v') := (Keep.refl (fun k => k = b) w2).setCell ⟨b, 1, none⟩ (show b = b from rfl) _
  refine ⟨⟨h1.le, .inr rfl, heap_set w2 b _ _ 1 _ hb2, k3.row hA.own (fun i hi e => hnb (by rw [hi, e])), hnb, hne⟩, ?_, fun k hk => (hA.moved k hk).imp id (fun hl => Nat.le_trans k1.size hl)⟩
  exact ((k1.mono fun _ h => .inl h).trans (hA.keep.mono fun _ h => .inr h)).trans (k3.mono fun _ h => .inl h)
theorem Hold.wrote {W w w' : World} {L : List Thing} (h : Hold W w L) (i : Nat) {b : Nat} {p v v' : Value} {l l' : Bs} (hi : L[i]? = some (tBld W.heap.size b p v l)) (hw : BWr W.heap.size b v l' w w' v') : Hold W w' (L.set i (tBld W.heap.size b (pt b) v' l')) :=
  h.turn i hi hw.keep (tBld_ok _ _ _ _ _) hw.at' (fun q hq => by
    rcases hq with hq | hq
    · exact .inl (.inl hq)
    · exact (hw.moved q hq).imp .inr id)

set_option maxHeartbeats 4000000 in
set_option maxRecDepth 100000 in
/-- A sign behind what a builder holds. -/
theorem wrune_any (base b : Nat) (p v : Value) (l x : Bs) (w : World) (h : BAt base b p v l w) (hx : IsS x) (hl : l.length ≤ 1000000) (hb : base ≤ w.heap.size) :
    Calls Tryd.prog 19 #[pt b, .int .i32 ((dec x).1 : Nat)] w fun e w' => e = .returned (.tuple #[.int .i64 x.length, .nilIface]) ∧ ∃ v', BWr base b v (l ++ x) w w' v' := by
  obtain ⟨r, hr⟩ : ∃ r : Int, ((dec x).1 : Int) = r := ⟨_, rfl⟩
  have hc : Lib.runeCells r = Lib.byteCells x := by rw [← hr]; exact hx.cells
  have hrl : (Lib.runeCells r).length = x.length := by rw [hc, Lib.byteCells_length]
  have hr0 : 0 ≤ r := by omega
  have hrv : r < 55296 ∨ 57343 < r ∧ r ≤ 1114111 := by
    rcases hx.kind with ⟨a, e, i1, i2⟩ | ⟨a, b, e, i1, i2, i3, i4, i5⟩ | ⟨a, b, c, e, i1, i2, i3, i4, i5, i6, i7⟩ | ⟨a, b, c, d, e, i1, i2, i3, i4, i5, i6, i7⟩ <;> omega
  have hx0 := hx.1
  rw [hr]
  go_enter Tryd.func19, Tryd.ntmps19
  go_wp2_with (go_at_call 23; refine (copy_any base b p v l _ h).mono ?_)
  rintro e w1 ⟨rfl, h1, k1⟩
  obtain ⟨ao, cap, hvv⟩ := own_shape h1.own
  have c0 : w1.cell? ⟨b, 0, none⟩ = some (pt b) := by rw [Lib.cell_of_heap h1.blk]; rfl
  have c1 : w1.cell? ⟨b, 1, none⟩ = some (.slice ao l.length cap) := by rw [Lib.cell_of_heap h1.blk, ← hvv]; rfl
  have ho1 : w1.ownsRow base 5 1 (.slice ao l.length cap) l.length (Lib.byteCells l) := hvv ▸ h1.own
  have hb1 : base ≤ w1.heap.size := Nat.le_trans hb k1.size
  go_wp2_with (go_at_call 24; refine (arune_any base _ l.length (Lib.byteCells l) r hr0 hrv _ ho1 hl hb1).mono ?_)
  rintro e w2 ⟨v', rfl, hA⟩
  rw [← hvv, hrl, hc, ← Lib.byteCells_append, ← List.length_append] at hA
  have hb2 : w2.heap[b]? = some (.cells #[pt b, v] 45 (0, 0)) := (hA.keep.block b h1.lt (fun e => h1.ne e)).trans h1.blk
  have d0 : w2.cell? ⟨b, 0, none⟩ = some (pt b) := by rw [Lib.cell_of_heap hb2]; rfl
  have d1 : w2.cell? ⟨b, 1, none⟩ = some (.slice ao l.length cap) := by rw [Lib.cell_of_heap hb2, ← hvv]; rfl
  have f1 : w2.frozen? ⟨b, 1, none⟩ = false := Lib.frozen_of_heap hb2 1
  obtain ⟨ao', cap', hv'⟩ := own_shape hA.own
  subst hv'
  have HA := Lib.hid hA
  have H1 := Lib.hid h1
  clear hA h1 ho1
  go_wp2
  go_ret2
  refine ⟨?_, _, BWr.put (l' := l ++ x) H1.out k1 (by have := HA.out; rw [List.length_append] at this ⊢; exact this) (fun e => by
    have := congrArg List.length e
    rw [List.length_append, List.length_nil] at this
    omega)⟩
  have e : ((l.length : Int) + (x.length : Int) - (l.length : Int)) = (x.length : Int) := by omega
  have hw : wrap64 (x.length : Int) = (x.length : Int) := by have := Lib.runeCells_le r; unfold wrap64; omega
  simp [e, hw]
end Go.Proofs.YtkdfgdhfjaapiaaDoor
