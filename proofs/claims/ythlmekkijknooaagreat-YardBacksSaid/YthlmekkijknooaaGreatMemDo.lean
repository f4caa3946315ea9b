/-
  The contract of Act.Do of package stackyardlaw03: an act, done to cells; what it tells, what the cells are then, and what is noted. No condition but that numbers fit their kinds.
-/
import Derived.Test.YthlmekkijknooaaGreatAMem
import Derived.Test.YthlmekkijknooaaGreatAKit
namespace Go.Proofs.YthlmekkijknooaaGreat
open Go.RowKit
set_option linter.unusedVariables false

/-- Something that is done to a cell. -/
structure Ac where
  who : Int
  op : Int
  cell : Int
  old : Int
  x : Int

abbrev Ac.val (a : Ac) : Value := .agg #[.int .i64 a.who, .int .i64 a.op, .int .i64 a.cell, .int .u64 a.old, .int .u64 a.x]

def Ac.ok (a : Ac) : Prop := 0 ≤ a.old ∧ a.old ≤ 18446744073709551615 ∧ 0 ≤ a.x ∧ a.x ≤ 18446744073709551615

/-- What is noted of an act, on a cell that is y. -/
def Ac.ev (a : Ac) (y : Int) : Ev :=
  if a.op % 4 = 0 then ⟨a.who, 0, a.cell, y, y, true⟩ else
  if a.op % 4 = 1 then ⟨a.who, 1, a.cell, y, a.x, true⟩ else
  if a.op % 4 = 2 then (if y = a.old then ⟨a.who, 2, a.cell, y, a.x, true⟩ else ⟨a.who, 2, a.cell, y, y, false⟩) else
  ⟨a.who, 3, a.cell, y, add64 y a.x, true⟩

/-- What an act tells. -/
def Ac.num (a : Ac) (y : Int) : Int := if a.op % 4 = 0 then y else if a.op % 4 = 3 then y else 0

/-- The cells behind an act. -/
def Ac.cells' (a : Ac) (C : List Int) : List Int :=
  if 0 ≤ a.cell ∧ a.cell < C.length then C.set a.cell.toNat (a.ev (C.getD a.cell.toNat 0)).new else C
/-- What was noted behind an act. -/
def Ac.log' (a : Ac) (C : List Int) (L : List Ev) : List Ev :=
  if 0 ≤ a.cell ∧ a.cell < C.length then L ++ [a.ev (C.getD a.cell.toNat 0)] else L
def Ac.n' (a : Ac) (C : List Int) : Int := if 0 ≤ a.cell ∧ a.cell < C.length then a.num (C.getD a.cell.toNat 0) else 0
def Ac.b' (a : Ac) (C : List Int) : Bool := if 0 ≤ a.cell ∧ a.cell < C.length then (a.ev (C.getD a.cell.toNat 0)).ok else !decide (a.op % 4 = 2)

theorem Ac.length (a : Ac) (C : List Int) : (a.cells' C).length = C.length := by
  unfold Ac.cells'
  split
  · exact List.length_set
  · rfl
theorem Ac.log_length (a : Ac) (C : List Int) (L : List Ev) : (a.log' C L).length ≤ L.length + 1 := by
  unfold Ac.log'
  split
  · simp
  · omega

def DoPost (base : Nat) (w : World) (p c : Nat) (v : Value) (C : List Int) (L : List Ev) (a : Ac) (r : Ending) (w' : World) : Prop :=
  r = .returned (.tuple #[u64 (a.n' C), .bool (a.b' C)]) ∧ ∃ v', Touched base w w' p c v v' (a.cells' C) (a.log' C L)

theorem Touched.after {base : Nat} {w W w' : World} {p c : Nat} {v v' : Value} {C L} (hb : Below w.heap.size w W) (h : Touched base W w' p c v v' C L) : Touched base w w' p c v v' C L :=
  ⟨h.mem, (Keep.of_below hb).trans h.keep, fun k hk => (h.moved k hk).imp id (fun h => Nat.le_trans hb.size h)⟩
theorem Touched.none {base : Nat} {w w' : World} {p c : Nat} {v : Value} {C L} (h : IsMem base w p c v C L) (hb : Below w.heap.size w w') : Touched base w w' p c v v C L :=
  ⟨h.later hb, Keep.of_below hb, moved_refl _ _⟩

theorem mod4 (a : Int) : a % 4 = 0 ∨ a % 4 = 1 ∨ a % 4 = 2 ∨ a % 4 = 3 := by omega

end Go.Proofs.YthlmekkijknooaaGreat
