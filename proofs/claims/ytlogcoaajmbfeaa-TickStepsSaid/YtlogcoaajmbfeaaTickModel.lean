/-
  The contract of Model.Step of package stackyardlaw05: it goes as a step of a stamp does. No condition but that numbers fit their kinds.
-/
import Derived.Test.YtlogcoaajmbfeaaWalkTickMost
namespace Go.Proofs.Ytlogcoaajmbfeaa
open Go.RowKit
set_option linter.unusedVariables false

/-- The law's own record of a stamp: the layout and whose it is; n steps were done, a is what a later step needs, x to y the stamp, ph how far it is; which cell is touched, how, and what it is then. -/
structure Mo where
  t : Int
  s : Int
  so : Int
  d : Int
  who : Int
  n : Int
  a : Int
  x : Int
  y : Int
  ph : Int
  cell : Int
  op : Int
  new : Int

abbrev Mo.list (k : Mo) : List Value := [i64 k.t, i64 k.s, i64 k.so, i64 k.d, i64 k.who, i64 k.n, i64 k.a, i64 k.x, i64 k.y, i64 k.ph, i64 k.cell, i64 k.op, u64 k.new]

/-- It lies in a block of its own. -/
structure IsMo (w : World) (q : Nat) (k : Mo) : Prop where
  c0 : w.cell? ⟨q, 0, none⟩ = some (i64 k.t)
  c1 : w.cell? ⟨q, 1, none⟩ = some (i64 k.s)
  c2 : w.cell? ⟨q, 2, none⟩ = some (i64 k.so)
  c3 : w.cell? ⟨q, 3, none⟩ = some (i64 k.d)
  c4 : w.cell? ⟨q, 4, none⟩ = some (i64 k.who)
  c5 : w.cell? ⟨q, 5, none⟩ = some (i64 k.n)
  c6 : w.cell? ⟨q, 6, none⟩ = some (i64 k.a)
  c7 : w.cell? ⟨q, 7, none⟩ = some (i64 k.x)
  c8 : w.cell? ⟨q, 8, none⟩ = some (i64 k.y)
  c9 : w.cell? ⟨q, 9, none⟩ = some (i64 k.ph)
  c10 : w.cell? ⟨q, 10, none⟩ = some (i64 k.cell)
  c11 : w.cell? ⟨q, 11, none⟩ = some (i64 k.op)
  c12 : w.cell? ⟨q, 12, none⟩ = some (u64 k.new)
  fz : ∀ o, w.frozen? ⟨q, o, none⟩ = false

theorem IsMo.lt {w : World} {q : Nat} {k : Mo} (h : IsMo w q k) : q < w.heap.size := World.block_lt_of_cell? w _ h.c0
theorem IsMo.keep {w w' : World} {q : Nat} {k : Mo} {T : Nat → Prop} (h : IsMo w q k) (e : Keep T w w') (hn : ¬ T q) : IsMo w' q k :=
  ⟨e.cell h.c0 hn, e.cell h.c1 hn, e.cell h.c2 hn, e.cell h.c3 hn, e.cell h.c4 hn, e.cell h.c5 hn, e.cell h.c6 hn, e.cell h.c7 hn, e.cell h.c8 hn, e.cell h.c9 hn, e.cell h.c10 hn, e.cell h.c11 hn, e.cell h.c12 hn, fun o => (e.frozen (a := ⟨q, o, none⟩) h.lt hn).trans (h.fz o)⟩
theorem IsMo.later {w w' : World} {q : Nat} {k : Mo} (h : IsMo w q k) (e : Below w.heap.size w w') : IsMo w' q k :=
  h.keep (T := fun _ => False) (Keep.of_below e) (fun h => h)
theorem IsMo.drew {w : World} {q : Nat} {k : Mo} (h : IsMo w q k) : IsMo w.drew q k := h.later (Below.refl _ _).drew

theorem setMo {w : World} {b : Nat} {k k' : Mo} (h : IsMo w b k) (i : Nat) (u : Value) (hk : (k.list.set i u) = k'.list) : IsMo (w.setCell ⟨b, i, none⟩ u) b k' := by
  have hc : ∀ j x, k.list[j]? = some x → w.cell? ⟨b, j, none⟩ = some x := by
    intro j x hj
    obtain ⟨c0, c1, c2, c3, c4, c5, c6, c7, c8, c9, c10, c11, c12, _⟩ := h
    rcases j with _ | _ | _ | _ | _ | _ | _ | _ | _ | _ | _ | _ | _ | j
    all_goals first | (simp at hj; subst hj; assumption) | (simp at hj)
  have hn : ∀ j x, k'.list[j]? = some x → (w.setCell ⟨b, i, none⟩ u).cell? ⟨b, j, none⟩ = some x := by
    intro j x hj
    rw [← hk, List.getElem?_set] at hj
    by_cases hij : i = j
    · subst hij
      simp only [if_true] at hj
      split at hj
      · rename_i hl
        cases hj
        exact World.cell?_setCell_same _ _ _ (hc i _ (List.getElem?_eq_getElem hl))
      · cases hj
    · rw [if_neg hij] at hj
      rw [World.cell?_setCell_other _ _ _ _ (fun e => hij (by injection e))]
      exact hc j x hj
  exact ⟨hn 0 _ rfl, hn 1 _ rfl, hn 2 _ rfl, hn 3 _ rfl, hn 4 _ rfl, hn 5 _ rfl, hn 6 _ rfl, hn 7 _ rfl, hn 8 _ rfl, hn 9 _ rfl, hn 10 _ rfl, hn 11 _ rfl, hn 12 _ rfl, fun o => by rw [World.frozen?_setCell]; exact h.fz o⟩

/-- What is known within Model.Step: the record, the cells, and that nothing but the record has turned. -/
structure MoS (base : Nat) (w w' : World) (q p c : Nat) (v : Value) (C : List Int) (L : List Ev) (k : Mo) : Prop where
  mo : IsMo w' q k
  mem : IsMem base w' p c v C L
  keep : Keep (· = q) w w'
  apart : ¬ Foot p c v q

section
variable {base : Nat} {w w1 w2 : World} {q p c : Nat} {v : Value} {C : List Int} {L : List Ev} {k : Mo}
theorem MoS.later (h : MoS base w w1 q p c v C L k) (e : Below w1.heap.size w1 w2) : MoS base w w2 q p c v C L k := ⟨h.mo.later e, h.mem.later e, h.keep.trans (Keep.of_below e), h.apart⟩
theorem MoS.drew (h : MoS base w w1 q p c v C L k) : MoS base w w1.drew q p c v C L k := h.later (Below.refl _ _).drew
theorem MoS.set (h : MoS base w w1 q p c v C L k) (k' : Mo) (i : Nat) (u : Value) (hk : (k.list.set i u) = k'.list) : MoS base w (w1.setCell ⟨q, i, none⟩ u) q p c v C L k' :=
  ⟨setMo h.mo i u hk, h.mem.keep ((Keep.refl (· = q) w1).own i u) (fun j hj hq => h.apart (hq ▸ hj)), h.keep.own i u, h.apart⟩
end

def MoPost (base : Nat) (w : World) (q p c : Nat) (v : Value) (C : List Int) (L : List Ev) (k : Mo) (r : Ending) (w' : World) : Prop := r = .returned (.tuple #[]) ∧ MoS base w w' q p c v C L k

end Go.Proofs.Ytlogcoaajmbfeaa
