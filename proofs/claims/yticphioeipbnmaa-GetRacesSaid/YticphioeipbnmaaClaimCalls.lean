/-
  Contracts of package claim; what a step of it does is told as a function on plain data. No condition but that numbers fit their kinds.
-/
import Derived.Test.YticphioeipbnmaaHold
import Derived.Test.YticphioeipbnmaaWordCalls
import Derived.Test.YticphioeipbnmaaTickLaw
namespace Go.Proofs.Yticphioeipbnmaa
open Go.RowKit
set_option linter.unusedVariables false

set_option maxHeartbeats 1000000 in
theorem conf2_any (a0 a1 : Int) (w : World) :
    Calls Try.prog 8 #[.int .i64 a0, .int .i64 a1, .int .i64 0, .int .i64 0] w fun r w' => ∃ t s : Int, r = .returned (cf t s 0 0) ∧ 1 ≤ t ∧ t ≤ 4 ∧ 1 ≤ s ∧ s ≤ 4 ∧ Below w.heap.size w w' := by
  have e0 : bits .and .i64 a0 3 = a0 % 4 := by rw [show (3 : Int) = ((3 : Nat) : Int) from rfl, and_i64 a0 3 2 rfl (by decide)]; rfl
  have e1 : bits .and .i64 a1 3 = a1 % 4 := by rw [show (3 : Int) = ((3 : Nat) : Int) from rfl, and_i64 a1 3 2 rfl (by decide)]; rfl
  have ez : bits .and .i64 0 3 = 0 := by decide
  go_enter Try.func8, Try.ntmps8
  go_wp2
  exact bodyPost_ret (v := cf (1 + a0 % 4) (1 + a1 % 4) 0 0) (by simp [results, Try.results8, go_sem]) rfl ⟨_, _, rfl, by omega, by omega, by omega, by omega, below_new (Below.refl _ _) _⟩

/-- The cells with which a Claim, or a Snap, begins: a layout, whose it is, and a place. -/
structure AtHead (w : World) (b : Nat) (t s so d who x : Int) : Prop where
  c0 : w.cell? ⟨b, 0, none⟩ = some (i64 t)
  c1 : w.cell? ⟨b, 1, none⟩ = some (i64 s)
  c2 : w.cell? ⟨b, 2, none⟩ = some (i64 so)
  c3 : w.cell? ⟨b, 3, none⟩ = some (i64 d)
  c4 : w.cell? ⟨b, 4, none⟩ = some (i64 who)
  c5 : w.cell? ⟨b, 5, none⟩ = some (i64 x)

/-- A claim under way. -/
structure Cl where
  t : Int
  s : Int
  so : Int
  d : Int
  who : Int
  slot : Int
  steps : Int
  ws : Int
  we : Int
  wg : Int
  wl : Int
  wh : Int
  ph : Int

abbrev Cl.list (k : Cl) : List Value := [i64 k.t, i64 k.s, i64 k.so, i64 k.d, i64 k.who, i64 k.slot, i64 k.steps, i64 k.ws, i64 k.we, i64 k.wg, i64 k.wl, i64 k.wh, i64 k.ph]

structure AtCl (w : World) (b : Nat) (k : Cl) : Prop where
  c0 : w.cell? ⟨b, 0, none⟩ = some (i64 k.t)
  c1 : w.cell? ⟨b, 1, none⟩ = some (i64 k.s)
  c2 : w.cell? ⟨b, 2, none⟩ = some (i64 k.so)
  c3 : w.cell? ⟨b, 3, none⟩ = some (i64 k.d)
  c4 : w.cell? ⟨b, 4, none⟩ = some (i64 k.who)
  c5 : w.cell? ⟨b, 5, none⟩ = some (i64 k.slot)
  c6 : w.cell? ⟨b, 6, none⟩ = some (i64 k.steps)
  c7 : w.cell? ⟨b, 7, none⟩ = some (i64 k.ws)
  c8 : w.cell? ⟨b, 8, none⟩ = some (i64 k.we)
  c9 : w.cell? ⟨b, 9, none⟩ = some (i64 k.wg)
  c10 : w.cell? ⟨b, 10, none⟩ = some (i64 k.wl)
  c11 : w.cell? ⟨b, 11, none⟩ = some (i64 k.wh)
  c12 : w.cell? ⟨b, 12, none⟩ = some (i64 k.ph)

theorem IsObj.cl {w : World} {b : Nat} {k : Cl} (h : IsObj w b k.list) : AtCl w b k :=
  ⟨h.at' 0 _ rfl, h.at' 1 _ rfl, h.at' 2 _ rfl, h.at' 3 _ rfl, h.at' 4 _ rfl, h.at' 5 _ rfl, h.at' 6 _ rfl, h.at' 7 _ rfl, h.at' 8 _ rfl, h.at' 9 _ rfl, h.at' 10 _ rfl, h.at' 11 _ rfl, h.at' 12 _ rfl⟩
theorem IsObj.head {w : World} {b : Nat} {t s so d who x : Int} {l : List Value} (h : IsObj w b (i64 t :: i64 s :: i64 so :: i64 d :: i64 who :: i64 x :: l)) : AtHead w b t s so d who x :=
  ⟨h.at' 0 _ rfl, h.at' 1 _ rfl, h.at' 2 _ rfl, h.at' 3 _ rfl, h.at' 4 _ rfl, h.at' 5 _ rfl⟩

/-- What a place says of itself is kept. -/
def Cl.word (k : Cl) (x : Int) : Cl := { k with ws := x % 4, we := x / 4 % 2, wg := x / 8 % 8192, wl := x / 65536 % 16777216, wh := x / 1099511627776 }
/-- On to the next place; m is the thread's first one. -/
def Cl.pass (k : Cl) (m : Int) : Cl := if k.slot = m + k.s - 1 then { k with ph := 2 } else { k with slot := k.slot + 1, steps := 0 }
def Cl.look (k : Cl) (m x : Int) : Cl := if x / 8 % 8192 = 8191 then (k.word x).pass m else if x % 4 = 0 then { k.word x with ph := 1 } else if x % 4 = 2 then { k.word x with steps := 1 } else (k.word x).pass m
def Cl.guard (k : Cl) (m x : Int) : Cl := if x = k.slot + 1 then k.pass m else if k.steps = k.t then { k with ph := 1 } else { k with steps := k.steps + 1 }
/-- The cell that is read next; hz is the first thread's hazard. -/
def Cl.cell (k : Cl) (hz : Nat) : Nat := if k.steps = 0 then k.slot.toNat else hz + (k.steps - 1).toNat
/-- A step. -/
def Cl.step (k : Cl) (m : Int) (hz : Nat) (C : List Int) : Cl := if k.ph = 0 then if k.steps = 0 then k.look m (C.getD (k.cell hz) 0) else k.guard m (C.getD (k.cell hz) 0) else k
def Cl.ev (k : Cl) (hz : Nat) (C : List Int) : List Ev := if k.ph = 0 then [⟨k.who, 0, (k.cell hz : Nat), C.getD (k.cell hz) 0, C.getD (k.cell hz) 0, true⟩] else []

/-- What may be in it. -/
structure Cl.Ok (k : Cl) (n m : Int) (hz : Nat) (C : List Int) : Prop where
  lay : Lay k.t k.s n
  hz : (hz : Int) = 2 * n
  len : (C.length : Int) = 2 * n + 2 * k.t
  w0 : 0 ≤ k.who
  w1 : k.who < k.t
  hm : k.who * k.s = m
  m0 : 0 ≤ m
  m1 : m + k.s ≤ n
  s0 : m ≤ k.slot
  s1 : k.slot < m + k.s
  g0 : 0 ≤ k.steps
  g1 : k.steps ≤ k.t

theorem load_at (base : Nat) (w : World) (p c : Nat) (v : Value) (C : List Int) (L : List Ev) (who i : Int) (j : Nat) (x : Int) (hi : i = (j : Int)) (hM : IsMem base w p c v C L) (hx : C[j]? = some x) (hb : base ≤ w.heap.size) (hL : L.length < 1000000000) :
    Calls Try.prog 43 #[pt p, i64 who, i64 i] w (MemPost base w p c v C (L ++ [⟨who, 0, j, x, x, true⟩]) (.returned (u64 x))) := by
  subst hi
  exact load_in base w p c v C L who j x hM hx hb hL

/-- What a step of a claim leaves. -/
def ClPost (base : Nat) (w : World) (b p c : Nat) (v : Value) (k' : Cl) (C' : List Int) (L' : List Ev) (e0 : Ending) (e : Ending) (w' : World) : Prop :=
  e = e0 ∧ ∃ v', Does (· = b) base w w' p c v v' C' L' ∧ IsObj w' b k'.list

end Go.Proofs.Yticphioeipbnmaa
