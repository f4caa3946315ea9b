/-
  Lists of acts as they came in; what is known of memory in MemActs. No condition.
-/
import Derived.Test.YthlmekkijknooaaGreatMemSame
namespace Go.Proofs.YthlmekkijknooaaGreat
open Go.RowKit
set_option linter.unusedVariables false

/-- An act lies at a place. -/
structure AtA (w : World) (b o : Nat) (a : Ac) : Prop where
  c0 : w.cell? ⟨b, o, none⟩ = some (.int .i64 a.who)
  c1 : w.cell? ⟨b, o + 1, none⟩ = some (.int .i64 a.op)
  c2 : w.cell? ⟨b, o + 2, none⟩ = some (.int .i64 a.cell)
  c3 : w.cell? ⟨b, o + 3, none⟩ = some (.int .u64 a.old)
  c4 : w.cell? ⟨b, o + 4, none⟩ = some (.int .u64 a.x)
  lt : b < w.heap.size

theorem AtA.later {w w' : World} {B b o : Nat} {a : Ac} (h : AtA w b o a) (hb : Below B w w') (hB : b < B) : AtA w' b o a := by
  have k : ∀ j, w'.cell? ⟨b, j, none⟩ = w.cell? ⟨b, j, none⟩ := fun j => hb.cell (p := ⟨b, j, none⟩) hB
  exact ⟨(k _).trans h.c0, (k _).trans h.c1, (k _).trans h.c2, (k _).trans h.c3, (k _).trans h.c4, Nat.lt_of_lt_of_le h.lt hb.size⟩

theorem rows_acts {w : World} {a0 : Option Addr} {len cap : Nat} (h : IsRows w [.inl .i64, .inl .i64, .inl .i64, .inl .u64, .inl .u64] a0 len cap) (hl : 0 < len) :
    ∃ b off, ∃ X : Nat → Ac, a0 = some ⟨b, off, none⟩ ∧ len ≤ cap ∧ ∀ i, i < len → AtA w b (off + i * 5) (X i) ∧ (X i).ok := by
  obtain ⟨h1, h2, h3, h4, h5⟩ := h
  obtain ⟨b, off, rfl⟩ := h4 hl
  have hx : ∀ i, ∃ x : Ac, i < len → AtA w b (off + i * 5) x ∧ x.ok := by
    intro i
    by_cases hi : i < len
    · obtain ⟨cs, hf, hc⟩ := h5 b off rfl i hi
      obtain ⟨c0, l0, rfl, g0, f0⟩ := fit_cons hf
      obtain ⟨c1, l1, rfl, g1, f1⟩ := fit_cons f0
      obtain ⟨c2, l2, rfl, g2, f2⟩ := fit_cons f1
      obtain ⟨c3, l3, rfl, g3, f3⟩ := fit_cons f2
      obtain ⟨c4, l4, rfl, g4, f4⟩ := fit_cons f3
      obtain ⟨x0, rfl, _⟩ := g0
      obtain ⟨x1, rfl, _⟩ := g1
      obtain ⟨x2, rfl, _⟩ := g2
      obtain ⟨x3, rfl, r3⟩ := g3
      obtain ⟨x4, rfl, r4⟩ := g4
      have k0 := hc 0 _ rfl
      exact ⟨⟨x0, x1, x2, x3, x4⟩, fun _ => ⟨⟨k0, hc 1 _ rfl, hc 2 _ rfl, hc 3 _ rfl, hc 4 _ rfl, World.block_lt_of_cell? w _ k0⟩, (bounds_u64 r3).1, (bounds_u64 r3).2, (bounds_u64 r4).1, (bounds_u64 r4).2⟩⟩
    · exact ⟨⟨0, 0, 0, 0, 0⟩, fun h => absurd h hi⟩
  obtain ⟨X, hX⟩ := Classical.axiomOfChoice hx
  exact ⟨b, off, X, rfl, h1, fun i hi => hX i hi⟩

/-- What is known of memory in MemActs: the cells (C, of which L was noted); the law's own cells (D) and list (M). -/
structure Acts (w wr : World) (p c : Nat) (v : Value) (C : List Int) (L : List Ev) (g : Nat) (lv : Value) (D : List Int) (M : List Ev) : Prop where
  own : Own w wr p c v C L
  row : wr.ownsRow w.heap.size 39 1 (.slice (some ⟨g, 0, none⟩) D.length D.length) D.length (D.map u64)
  log : wr.ownsRow w.heap.size 72 6 lv M.length (flatE M)
  gf : ¬ Foot p c v g
  lf : ∀ k, lv.ownBlock = some k → ¬ Foot p c v k
  lg : lv.ownBlock ≠ some g

theorem Acts.later {w wr wr' : World} {p c : Nat} {v : Value} {C L g lv D M} (h : Acts w wr p c v C L g lv D M) (k : Below wr.heap.size wr wr') : Acts w wr' p c v C L g lv D M :=
  ⟨h.own.later k, (Keep.of_below (T := fun _ => False) k).row h.row (fun _ _ h => h), (Keep.of_below (T := fun _ => False) k).row h.log (fun _ _ h => h), h.gf, h.lf, h.lg⟩

theorem foot_moved {w : World} {p c : Nat} {v v' : Value} (h : Moved w v v') {k : Nat} (hk : k < w.heap.size) (hn : ¬ Foot p c v k) : ¬ Foot p c v' k := by
  rintro (h1 | h1 | h1)
  · exact hn (.inl h1)
  · exact hn (.inr (.inl h1))
  · rcases h k h1 with h2 | h2
    · exact hn (.inr (.inr h2))
    · omega

theorem Acts.touched {w wr wr' : World} {p c : Nat} {v v' : Value} {C L g lv D M} {C' : List Int} {L' : List Ev} (h : Acts w wr p c v C L g lv D M) (k : Touched w.heap.size wr wr' p c v v' C' L') : Acts w wr' p c v' C' L' g lv D M :=
  ⟨h.own.step k, k.keep.row h.row (fun i hi => by cases hi; exact h.gf), k.keep.row h.log h.lf, foot_moved k.moved (h.row.lt g rfl).2 h.gf, fun i hi => foot_moved k.moved (h.log.lt i hi).2 (h.lf i hi), h.lg⟩

theorem Own.elsewhere {w0 w w' : World} {p c : Nat} {v : Value} {C : List Int} {L : List Ev} {T : Nat → Prop} (h : Own w0 w p c v C L) (k : Keep T w w') (hT : ∀ i, T i → w0.heap.size ≤ i) (hn : ∀ i, Foot p c v i → ¬ T i) : Own w0 w' p c v C L :=
  ⟨h.mem.keep k hn, Nat.le_trans h.size k.size, below_keep h.below k h.size hT⟩

theorem Acts.store {w wr : World} {p c : Nat} {v : Value} {C L g lv D M} (h : Acts w wr p c v C L g lv D M) (i : Nat) (y : Int) : Acts w (wr.setCell ⟨g, i, none⟩ (u64 y)) p c v C L g lv (D.set i y) M := by
  have hk : Keep (fun k => k = g) wr (wr.setCell ⟨g, i, none⟩ (u64 y)) := (Keep.refl (fun k => k = g) wr).setCell ⟨g, i, none⟩ rfl _
  refine ⟨h.own.elsewhere hk (fun k e => by subst e; exact (h.row.lt k rfl).1) (fun k hf e => by subst e; exact h.gf hf), ?_, hk.row h.log (fun k hkk e => by subst e; exact h.lg hkk), h.gf, h.lf, h.lg⟩
  rw [List.length_set, List.map_set]
  exact (h.row.stored i (u64 y)).1

theorem Acts.append {w wr wr' : World} {p c : Nat} {v : Value} {C L g lv lv' D M} {e : Ev} (h : Acts w wr p c v C L g lv D M) (hG : Grew wr wr' w.heap.size 72 6 lv lv' (M.length + 1) (flatE M ++ e.cells)) : Acts w wr' p c v C L g lv' D (M ++ [e]) := by
  have hk : Keep (fun k => lv.ownBlock = some k) wr wr' := Keep.of_grown hG.grown (fun k hk => hk)
  have hgl := (h.row.lt g rfl).2
  refine ⟨h.own.elsewhere hk (fun k hk => (h.log.lt k hk).1) (fun k hf hk => h.lf k hk hf), hk.row h.row (fun k hkk hl => by cases hkk; exact h.lg hl), ?_, h.gf, fun k hk hf => ?_, fun hk => ?_⟩
  · rw [List.length_append, flatE_append]
    simpa [flatE] using hG.own
  · rcases hG.moved k hk with h1 | h1
    · exact h.lf k h1 hf
    · have := (h.own.mem.foot k hf).2
      omega
  · rcases hG.moved g hk with h1 | h1
    · exact h.lg h1
    · omega
end Go.Proofs.YthlmekkijknooaaGreat
