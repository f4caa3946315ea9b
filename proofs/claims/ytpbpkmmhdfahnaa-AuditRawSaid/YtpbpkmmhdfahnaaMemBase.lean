/-
  What is known of cells that are shared (package mem), between two calls. No condition.
-/
import Derived.Test.YtpbpkmmhdfahnaaProg
import Derived.Test.YtpbpkmmhdfahnaaRegion
import Derived.Test.YtpbpkmmhdfahnaaFrame
import Derived.Test.YtpbpkmmhdfahnaaHoldCore
import Derived.IntWalk
namespace Go.Proofs.Ytpbpkmmhdfahnaa
open Go.RowKit
set_option linter.unusedVariables false


structure Ev where
  who : Int
  op : Int
  cell : Int
  old : Int
  new : Int
  ok : Bool

def Ev.cells (e : Ev) : List Value := [i64 e.who, i64 e.op, i64 e.cell, u64 e.old, u64 e.new, .bool e.ok]

/-- Events as cells. -/
def flatE : List Ev → List Value
  | [] => []
  | e :: l => e.cells ++ flatE l

theorem flatE_append : ∀ a b : List Ev, flatE (a ++ b) = flatE a ++ flatE b
  | [], _ => rfl
  | e :: a, b => by simp [flatE, flatE_append a b]
theorem flatE_length : ∀ l : List Ev, (flatE l).length = l.length * 6
  | [] => rfl
  | e :: l => by simp only [flatE, List.length_append, List.length_cons, flatE_length l, Ev.cells, List.length_nil]; omega
theorem flatE_one : ∀ (l : List Ev) (u : Value), u ∈ flatE l → u.oneCell' = true
  | [], _, h => by cases h
  | e :: l, u, h => by
    simp only [flatE, List.mem_append, Ev.cells, List.mem_cons, List.not_mem_nil, or_false] at h
    rcases h with (rfl | rfl | rfl | rfl | rfl | rfl) | h
    · rfl
    · rfl
    · rfl
    · rfl
    · rfl
    · rfl
    · exact flatE_one l u h

theorem elem_ev : ElemAt Try.prog 22 41 (.agg #[.int .i64 0, .int .i64 0, .int .i64 0, .int .u64 0, .int .u64 0, .bool false]) 6 48 :=
  ElemAt.mk' Try.underlying22 (by kernel_rfl) rfl (by decide)

/-- Cells that are C, of which L was noted: at block p; the cells' own block is c, v the list of what was noted. -/
structure IsMem (base : Nat) (w : World) (p c : Nat) (v : Value) (C : List Int) (L : List Ev) : Prop where
  c0 : w.cell? ⟨p, 0, none⟩ = some (.slice (some ⟨c, 0, none⟩) C.length C.length)
  c1 : w.cell? ⟨p, 1, none⟩ = some v
  fz : ∀ o, w.frozen? ⟨p, o, none⟩ = false
  row : w.ownsRow base 31 1 (.slice (some ⟨c, 0, none⟩) C.length C.length) C.length (C.map u64)
  log : w.ownsRow base 41 6 v L.length (flatE L)
  pc : p ≠ c
  vp : v.ownBlock ≠ some p
  vc : v.ownBlock ≠ some c
  pb : base ≤ p
  ps : p < w.heap.size
  num : ∀ x ∈ C, 0 ≤ x ∧ x ≤ 18446744073709551615

/-- The blocks of cells. -/
def Foot (p c : Nat) (v : Value) (k : Nat) : Prop := k = p ∨ k = c ∨ v.ownBlock = some k

theorem IsMem.cb {base : Nat} {w : World} {p c : Nat} {v : Value} {C : List Int} {L : List Ev} (h : IsMem base w p c v C L) : base ≤ c ∧ c < w.heap.size := h.row.lt c rfl
theorem IsMem.foot {base : Nat} {w : World} {p c : Nat} {v : Value} {C : List Int} {L : List Ev} (h : IsMem base w p c v C L) : ∀ k, Foot p c v k → base ≤ k ∧ k < w.heap.size := by
  rintro k (rfl | rfl | hk)
  · exact ⟨h.pb, h.ps⟩
  · exact h.cb
  · exact h.log.lt k hk

theorem IsMem.keep {base : Nat} {w w' : World} {p c : Nat} {v : Value} {C : List Int} {L : List Ev} {T : Nat → Prop} (h : IsMem base w p c v C L) (k : Keep T w w') (hT : ∀ i, Foot p c v i → ¬ T i) : IsMem base w' p c v C L :=
  ⟨k.cell h.c0 (hT _ (.inl rfl)), k.cell h.c1 (hT _ (.inl rfl)), fun o => (k.frozen (a := ⟨p, o, none⟩) h.ps (hT _ (.inl rfl))).trans (h.fz o),
    k.row h.row (fun i hi => hT i (.inr (.inl (by cases hi; rfl)))), k.row h.log (fun i hi => hT i (.inr (.inr hi))), h.pc, h.vp, h.vc, h.pb, Nat.lt_of_lt_of_le h.ps k.size, h.num⟩
theorem IsMem.later {base : Nat} {w w' : World} {p c : Nat} {v : Value} {C : List Int} {L : List Ev} (h : IsMem base w p c v C L) (k : Below w.heap.size w w') : IsMem base w' p c v C L :=
  h.keep (T := fun _ => False) (Keep.of_below k) (fun _ _ h => h)

theorem IsMem.at' {base : Nat} {w : World} {p c : Nat} {v : Value} {C : List Int} {L : List Ev} (h : IsMem base w p c v C L) {i : Nat} {x : Int} (hx : C[i]? = some x) : w.cell? ⟨c, i, none⟩ = some (u64 x) := by
  have hi := (List.getElem?_eq_some_iff.1 hx).1
  rw [h.row.cellAt i (by omega), List.getElem?_map, hx]
  rfl
theorem IsMem.numAt {base : Nat} {w : World} {p c : Nat} {v : Value} {C : List Int} {L : List Ev} (h : IsMem base w p c v C L) {i : Nat} {x : Int} (hx : C[i]? = some x) : 0 ≤ x ∧ x ≤ 18446744073709551615 :=
  h.num x (List.mem_of_getElem? hx)

/-- What is known behind a call that touches cells. -/
structure Touched (base : Nat) (w w' : World) (p c : Nat) (v v' : Value) (C' : List Int) (L' : List Ev) : Prop where
  mem : IsMem base w' p c v' C' L'
  keep : Keep (Foot p c v) w w'
  moved : Moved w v v'

def MemPost (base : Nat) (w : World) (p c : Nat) (v : Value) (C' : List Int) (L' : List Ev) (e0 : Ending) (e : Ending) (w' : World) : Prop :=
  e = e0 ∧ ∃ v', Touched base w w' p c v v' C' L'



theorem src_one (w : World) (e : Ev) : Src (w.alloc (.cells #[i64 e.who, i64 e.op, i64 e.cell, u64 e.old, u64 e.new, .bool e.ok] 41)) 6 (some ⟨w.heap.size, 0, none⟩) 1 e.cells :=
  ⟨(fun h => by cases h), rfl, fun ad had j u hj => by
    cases had
    rw [addr_add', Nat.zero_add]
    have : (w.alloc (.cells #[i64 e.who, i64 e.op, i64 e.cell, u64 e.old, u64 e.new, .bool e.ok] 41)).cell? ⟨w.heap.size, j, none⟩ = #[i64 e.who, i64 e.op, i64 e.cell, u64 e.old, u64 e.new, .bool e.ok][j]? := World.cell?_alloc_new w _ _ j
    rw [this, ← Array.getElem?_toList]
    exact hj, fun u hu => flatE_one [e] u (by simpa [flatE] using hu)⟩

theorem src_one' (w W : World) (e : Ev) (h : W.heap = (w.alloc (.cells #[i64 e.who, i64 e.op, i64 e.cell, u64 e.old, u64 e.new, .bool e.ok] 41)).heap) : Src W 6 (some ⟨w.heap.size, 0, none⟩) 1 e.cells :=
  have k := src_one w e
  ⟨k.nil, k.len, fun ad had j u hj => (World.cell?_of_block (w := w.alloc _) (by rw [h])).trans (k.at' ad had j u hj), k.one⟩

theorem setCell_row {w : World} {base : Nat} {e : TypeId} {sz : Nat} {v : Value} {n : Nat} {xs : List Value} (h : w.ownsRow base e sz v n xs) (p : Addr) (hp : v.ownBlock ≠ some p.block) (u : Value) : (w.setCell p u).ownsRow base e sz v n xs := by
  refine ⟨h.1, ?_⟩
  rcases h.2 with h1 | ⟨g, cap, cur, rfl, hg, hh, h3⟩
  · exact .inl h1
  · exact .inr ⟨g, cap, cur, rfl, hg, by rw [Below.heap_setCell _ _ _ _ (fun e => hp (by simp [Value.ownBlock, e]))]; exact hh, h3⟩

theorem turn_facts {base : Nat} {w W w1 : World} {p c : Nat} {v v' : Value} {C : List Int} {L : List Ev} {n i : Nat} {x : Int} {xs : List Value} (hM : IsMem base w p c v C L) (hx : C[i]? = some x) (hW : Below w.heap.size w W)
    (hG : Grew W w1 base 41 6 v v' n xs) : w1.cell? ⟨p, 0, none⟩ = some (.slice (some ⟨c, 0, none⟩) C.length C.length) ∧ w1.cell? ⟨p, 1, none⟩ = some v ∧ w1.cell? ⟨c, i, none⟩ = some (u64 x) ∧
      w1.frozen? ⟨p, 0, none⟩ = false ∧ w1.frozen? ⟨p, 1, none⟩ = false ∧ w1.frozen? ⟨c, i, none⟩ = false := by
  have hM' := hM.later hW
  have kr := hM'.row.kept hG.grown (.inr (fun h => hM.vc h.symm))
  have hb := hG.grown.block p hM'.ps (fun h => hM.vp h.symm)
  exact ⟨hG.grown.cell hM'.c0 (fun h => hM.vp h.symm), hG.grown.cell hM'.c1 (fun h => hM.vp h.symm), hG.grown.cell (hM'.at' hx) (fun h => hM.vc h.symm), (World.frozen?_of_block (a := ⟨p, 0, none⟩) hb).trans (hM'.fz 0), (World.frozen?_of_block (a := ⟨p, 1, none⟩) hb).trans (hM'.fz 1), kr.frozenAt i⟩

theorem turn_post {base : Nat} {w W w1 : World} {p c : Nat} {v v' : Value} {C : List Int} {L : List Ev} {i : Nat} {e : Ev} {next : Int} (hM : IsMem base w p c v C L) (hi : i < C.length) (hW : Below w.heap.size w W)
    (hG : Grew W w1 base 41 6 v v' (L.length + 1) (flatE L ++ e.cells)) (h0 : 0 ≤ next) (h1 : next ≤ 18446744073709551615) :
    Touched base w ((w1.setCell ⟨p, 1, none⟩ v').setCell ⟨c, i, none⟩ (u64 next)) p c v v' (C.set i next) (L ++ [e]) := by
  have hM' := hM.later hW
  have hp := hM.ps
  have hcb := hM.cb
  have hpW := hW.size
  have hown : v'.ownBlock ≠ some p ∧ v'.ownBlock ≠ some c := by
    constructor
    all_goals
      intro hk
      rcases hG.moved _ hk with h | h
      · first | exact hM.vp h | exact hM.vc h
      · omega
  have k0 : w1.cell? ⟨p, 0, none⟩ = _ := hG.grown.cell hM'.c0 (fun h => hM.vp h.symm)
  have k1 : w1.cell? ⟨p, 1, none⟩ = some v := hG.grown.cell hM'.c1 (fun h => hM.vp h.symm)
  have kr := hM'.row.kept hG.grown (.inr (fun h => hM.vc h.symm))
  have kp := hM.pc
  have hK1 : Keep (Foot p c v) w w1 := (Keep.of_below hW).trans (Keep.of_grown hG.grown (fun k hk => .inr (.inr hk)))
  refine ⟨⟨?_, ?_, ?_, ?_, ?_, kp, hown.1, hown.2, hM.pb, ?_, ?_⟩, ?_, fun k hk => (hG.moved k hk).imp id (fun h => by omega)⟩
  · rw [List.length_set, World.cell?_setCell_other _ _ _ _ (by simp), World.cell?_setCell_other _ _ _ _ (by simp)]
    exact k0
  · rw [World.cell?_setCell_other _ _ _ _ (by simp)]
    exact World.cell?_setCell_same _ _ _ k1
  · intro o
    rw [World.frozen?_setCell, World.frozen?_setCell]
    exact (World.frozen?_of_block (a := ⟨p, o, none⟩) (hG.grown.block p hM'.ps (fun h => hM.vp h.symm))).trans (hM'.fz o)
  · have h2 := (setCell_row kr ⟨p, 1, none⟩ (by simp [Value.ownBlock]; exact fun h => kp h.symm) v').stored i (u64 next)
    rw [List.length_set, List.map_set]
    exact h2.1
  · rw [List.length_append, flatE_append]
    refine setCell_row (setCell_row ?_ _ hown.1 _) _ hown.2 _
    simpa [flatE] using hG.own
  · have := hG.grown.size
    simp [World.setCell]
    omega
  · intro y hy
    rcases List.mem_or_eq_of_mem_set hy with h | rfl
    · exact hM.num y h
    · exact ⟨h0, h1⟩
  · exact (hK1.setCell _ (.inl rfl) _).setCell _ (.inr (.inl rfl)) _

theorem foot_new {w w' : World} {base : Nat} {p c : Nat} {v v' : Value} {C L} (h : Touched base w w' p c v v' C L) {k : Nat} (hf : Foot p c v' k) : Foot p c v k ∨ w.heap.size ≤ k := by
  rcases hf with h1 | h1 | h1
  · exact .inl (.inl h1)
  · exact .inl (.inr (.inl h1))
  · exact (h.moved k h1).imp (fun h => .inr (.inr h)) id
theorem foot_mv {wr : World} {p c : Nat} {v v' : Value} (h : Moved wr v v') {k : Nat} (hk : k < wr.heap.size) (hn : ¬ Foot p c v k) : ¬ Foot p c v' k := by
  rintro (h1 | h1 | h1)
  · exact hn (.inl h1)
  · exact hn (.inr (.inl h1))
  · rcases h k h1 with h2 | h2
    · exact hn (.inr (.inr h2))
    · omega

end Go.Proofs.Ytpbpkmmhdfahnaa
