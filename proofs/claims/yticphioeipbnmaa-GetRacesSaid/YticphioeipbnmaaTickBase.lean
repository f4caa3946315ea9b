/-
  What is known of a stamp that is being made (package tick), between two calls; and what a step of it does, as a function on plain data. No condition.
-/
import Derived.Test.YticphioeipbnmaaWalkMemSizes
import Derived.Test.YticphioeipbnmaaLayCalls
import Derived.Test.YticphioeipbnmaaStampCalls
namespace Go.Proofs.Yticphioeipbnmaa
open Go.RowKit
set_option linter.unusedVariables false

/-- A stamp that is being made: the layout's four numbers, whose it is, and how far it is. -/
structure Tk where
  t : Int
  s : Int
  so : Int
  d : Int
  who : Int
  steps : Int
  seen : Int
  ph : Int
  lo : Int
  hi : Int

abbrev Tk.list (k : Tk) : List Value := [i64 k.t, i64 k.s, i64 k.so, i64 k.d, i64 k.who, i64 k.steps, i64 k.seen, i64 k.ph, i64 k.lo, i64 k.hi]

/-- It lies in a block of its own. -/
structure IsTk (w : World) (b : Nat) (k : Tk) : Prop where
  c0 : w.cell? ⟨b, 0, none⟩ = some (i64 k.t)
  c1 : w.cell? ⟨b, 1, none⟩ = some (i64 k.s)
  c2 : w.cell? ⟨b, 2, none⟩ = some (i64 k.so)
  c3 : w.cell? ⟨b, 3, none⟩ = some (i64 k.d)
  c4 : w.cell? ⟨b, 4, none⟩ = some (i64 k.who)
  c5 : w.cell? ⟨b, 5, none⟩ = some (i64 k.steps)
  c6 : w.cell? ⟨b, 6, none⟩ = some (i64 k.seen)
  c7 : w.cell? ⟨b, 7, none⟩ = some (i64 k.ph)
  c8 : w.cell? ⟨b, 8, none⟩ = some (i64 k.lo)
  c9 : w.cell? ⟨b, 9, none⟩ = some (i64 k.hi)
  fz : ∀ o, w.frozen? ⟨b, o, none⟩ = false

theorem IsTk.lt {w : World} {b : Nat} {k : Tk} (h : IsTk w b k) : b < w.heap.size := World.block_lt_of_cell? w _ h.c0
theorem IsTk.keep {w w' : World} {b : Nat} {k : Tk} {T : Nat → Prop} (h : IsTk w b k) (e : Keep T w w') (hn : ¬ T b) : IsTk w' b k :=
  ⟨e.cell h.c0 hn, e.cell h.c1 hn, e.cell h.c2 hn, e.cell h.c3 hn, e.cell h.c4 hn, e.cell h.c5 hn, e.cell h.c6 hn, e.cell h.c7 hn, e.cell h.c8 hn, e.cell h.c9 hn, fun o => (e.frozen (a := ⟨b, o, none⟩) h.lt hn).trans (h.fz o)⟩
theorem IsTk.later {w w' : World} {b : Nat} {k : Tk} (h : IsTk w b k) (e : Below w.heap.size w w') : IsTk w' b k :=
  h.keep (T := fun _ => False) (Keep.of_below e) (fun h => h)
theorem IsTk.drew {w : World} {b : Nat} {k : Tk} (h : IsTk w b k) : IsTk w.drew b k := ⟨h.c0, h.c1, h.c2, h.c3, h.c4, h.c5, h.c6, h.c7, h.c8, h.c9, h.fz⟩

/-- A cell's number as stamps take it. -/
def low (x : Int) : Int := min x 16777215
/-- What comes of a stamp from lo to hi. -/
def fin (k : Tk) (lo hi : Int) : Tk := if 0 ≤ lo ∧ lo ≤ hi ∧ hi < 16777215 then { k with ph := 1, lo := lo, hi := hi } else { k with ph := 2 }

/-- A step: what it is then, the cells, and what is noted. nb is the cell of the first thread's number. -/
def stp (nb : Nat) (k : Tk) (C : List Int) (now : Int) : Tk × List Int × Option Ev :=
  if k.ph = 0 then
    if k.so = 0 then (fin { k with steps := k.steps + 1 } (low (C.getD nb 0)) (low (C.getD nb 0)), C.set nb (add64 (C.getD nb 0) 1), some ⟨k.who, 3, nb, C.getD nb 0, add64 (C.getD nb 0) 1, true⟩)
    else if k.so = 1 then
      if k.steps < k.t then ({ k with steps := k.steps + 1, seen := max k.seen (low (C.getD (nb + k.steps.toNat) 0)) }, C, some ⟨k.who, 0, (nb + k.steps.toNat : Nat), C.getD (nb + k.steps.toNat) 0, C.getD (nb + k.steps.toNat) 0, true⟩)
      else if k.seen + 1 < 16777215 then ({ k with steps := k.steps + 1, ph := 1, lo := k.seen + 1, hi := k.seen + 1 }, C.set (nb + k.who.toNat) (k.seen + 1), some ⟨k.who, 1, (nb + k.who.toNat : Nat), C.getD (nb + k.who.toNat) 0, k.seen + 1, true⟩)
      else ({ k with steps := k.steps + 1, ph := 2 }, C, none)
    else if k.so = 2 then
      if k.steps = 0 then ({ k with steps := k.steps + 1, seen := low (C.getD nb 0), ph := if low (C.getD nb 0) = 16777215 then 2 else 0 }, C, some ⟨k.who, 0, nb, C.getD nb 0, C.getD nb 0, true⟩)
      else if k.steps = 1 then (if low (C.getD nb 0) = k.seen then { k with steps := k.steps + 1 } else fin { k with steps := k.steps + 1 } k.seen (low (C.getD nb 0) - 1), C, some ⟨k.who, 0, nb, C.getD nb 0, C.getD nb 0, true⟩)
      else if k.steps = 2 then
        if C.getD nb 0 = k.seen then (fin { k with steps := k.steps + 1 } k.seen k.seen, C.set nb (k.seen + 1), some ⟨k.who, 2, nb, C.getD nb 0, k.seen + 1, true⟩)
        else ({ k with steps := k.steps + 1 }, C, some ⟨k.who, 2, nb, C.getD nb 0, C.getD nb 0, false⟩)
      else (fin { k with steps := k.steps + 1 } k.seen (low (C.getD nb 0) - 1), C, some ⟨k.who, 0, nb, C.getD nb 0, C.getD nb 0, true⟩)
    else
      if k.so = 3 ∨ k.d < k.steps then (fin { k with steps := k.steps + 1, seen := if k.steps = 0 then low now else k.seen } (if k.steps = 0 then low now else k.seen) (low now), C, none)
      else ({ k with steps := k.steps + 1, seen := if k.steps = 0 then low now else k.seen }, C, none)
  else (k, C, none)

/-- What may be in it. -/
structure Tk.Ok (k : Tk) (nb : Nat) (n : Int) (C : List Int) : Prop where
  lay : Lay k.t k.s n
  nt : (nb : Int) = 2 * n + k.t
  len : C.length = nb + k.t.toNat
  w0 : 0 ≤ k.who
  w1 : k.who < k.t
  s0 : 0 ≤ k.steps
  s1 : k.steps ≤ 1000000
  e0 : 0 ≤ k.seen
  e1 : k.seen ≤ 16777215
  o0 : 0 ≤ k.so
  o1 : k.so ≤ 4
  d0 : 0 ≤ k.d
  d1 : k.d ≤ 100
  p0 : 0 ≤ k.ph
  p1 : k.ph ≤ 2
  sw : k.so = 2 → 1 ≤ k.steps → k.ph = 0 → k.seen < 16777215



/-- What is known behind a step (of a stamp in block b, with cells at p, c, noted in v). -/
structure Stepped (base : Nat) (w w' : World) (b p c : Nat) (v v' : Value) (k' : Tk) (C' : List Int) (L' : List Ev) : Prop where
  tk : IsTk w' b k'
  mem : IsMem base w' p c v' C' L'
  apart : ¬ Foot p c v' b
  keep : Keep (fun i => i = b ∨ Foot p c v i) w w'
  moved : Moved w v v'
  size : base ≤ w'.heap.size

section
variable {base : Nat} {w w1 w2 : World} {b p c : Nat} {v v1 v2 : Value} {k k1 k2 : Tk} {C C1 C2 : List Int} {L L1 L2 : List Ev}

theorem Stepped.refl (hT : IsTk w b k) (hM : IsMem base w p c v C L) (ha : ¬ Foot p c v b) (hb : base ≤ w.heap.size) : Stepped base w w b p c v v k C L :=
  ⟨hT, hM, ha, Keep.refl _ _, moved_refl _ _, hb⟩
theorem Stepped.later (h : Stepped base w w1 b p c v v1 k C L) (e : Below w1.heap.size w1 w2) : Stepped base w w2 b p c v v1 k C L :=
  ⟨h.tk.later e, h.mem.later e, h.apart, h.keep.trans (Keep.of_below e), h.moved, Nat.le_trans h.size e.size⟩
theorem Stepped.own (h : Stepped base w w1 b p c v v1 k C L) (hT : IsTk w2 b k2) (e : Keep (· = b) w1 w2) : Stepped base w w2 b p c v v1 k2 C L :=
  ⟨hT, h.mem.keep e (fun i hi hb => h.apart (hb ▸ hi)), h.apart, h.keep.trans (e.mono fun _ h => .inl h), h.moved, Nat.le_trans h.size e.size⟩
theorem Stepped.cells (h : Stepped base w w1 b p c v v1 k C L) (t : Touched base w1 w2 p c v1 v2 C2 L2) : Stepped base w w2 b p c v v2 k C2 L2 :=
  ⟨h.tk.keep t.keep h.apart, t.mem, fun hf => (foot_new t hf).elim h.apart (fun hs => absurd h.tk.lt (by omega)),
    h.keep.then' t.keep (fun i hi => by
      rcases hi with h1 | h1 | h1
      · exact .inl (.inr (.inl h1))
      · exact .inl (.inr (.inr (.inl h1)))
      · exact (h.moved i h1).imp (fun h => .inr (.inr (.inr h))) id), h.moved.trans t.moved h.keep.size, Nat.le_trans h.size t.keep.size⟩
theorem Stepped.trans (h : Stepped base w w1 b p c v v1 k C L) (t : Stepped base w1 w2 b p c v1 v2 k2 C2 L2) : Stepped base w w2 b p c v v2 k2 C2 L2 :=
  ⟨t.tk, t.mem, t.apart, h.keep.then' t.keep (fun i hi => by
      rcases hi with h1 | h1 | h1 | h1
      · exact .inl (.inl h1)
      · exact .inl (.inr (.inl h1))
      · exact .inl (.inr (.inr (.inl h1)))
      · exact (h.moved i h1).imp (fun h => .inr (.inr (.inr h))) id), h.moved.trans t.moved h.keep.size, t.size⟩
theorem Stepped.drew (h : Stepped base w w1 b p c v v1 k C L) : Stepped base w w1.drew b p c v v1 k C L := h.later (Below.refl _ _).drew
end

/-- What a step of a stamp leaves. -/
def TickPost (base : Nat) (w : World) (b p c : Nat) (v : Value) (k' : Tk) (C' : List Int) (L' : List Ev) (e0 : Ending) (e : Ending) (w' : World) : Prop :=
  e = e0 ∧ ∃ v', Stepped base w w' b p c v v' k' C' L'

end Go.Proofs.Yticphioeipbnmaa
