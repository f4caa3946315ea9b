/-
  Which events may be, by the page, of any events. No Go. No condition.
-/
import Derived.Test.YtpfjommkjkbonaaGreatAMem
namespace Go.Proofs.YtpfjommkjkbonaaGreat
open Go.RowKit
set_option linter.unusedVariables false

/-- One more, of 64 bits. -/
def inc64 (x : Int) : Int := IntKind.u64.wrap (x + 1)
/-- What a cell is behind events. -/
def lastE (L : List Ev) (c : Int) : Int := L.foldl (fun x e => if e.cell = c then e.new else x) 0
theorem lastE_snoc (L : List Ev) (e : Ev) (c : Int) : lastE (L ++ [e]) c = if e.cell = c then e.new else lastE L c := by
  unfold lastE
  rw [List.foldl_append]
  rfl
/-- What a thread loaded last of a cell. -/
def loadE (L : List Ev) (who c : Int) : Option Int := L.foldl (fun x e => if e.who = who ∧ e.cell = c ∧ e.op = 0 then some e.old else x) none
theorem loadE_snoc (L : List Ev) (e : Ev) (who c : Int) : loadE (L ++ [e]) who c = if e.who = who ∧ e.cell = c ∧ e.op = 0 then some e.old else loadE L who c := by
  unfold loadE
  rw [List.foldl_append]
  rfl

/-- May a word be turned so? s: how many places a thread has. -/
def MayW (s : Int) (e : Ev) : Prop :=
  e.op = 0 ∨ (e.op = 1 ∧ e.who = e.cell / s ∧ e.old % 4 ≠ 1 ∧ e.new % 4 = 1 ∧ e.new / 8 % 8192 = e.old / 8 % 8192 + 1 ∧ e.new / 65536 % 16777216 ≤ e.new / 1099511627776 ∧ e.new / 1099511627776 < 16777215) ∨
    (e.op = 2 ∧ (e.ok = false ∨ (e.old % 4 = 1 ∧ e.new % 4 = 2 ∧ e.new / 4 % 2 = e.old / 4 % 2 ∧ e.new / 8 % 8192 = e.old / 8 % 8192 ∧ e.new / 65536 % 16777216 = e.old / 65536 % 16777216 ∧ e.new / 1099511627776 = e.old / 1099511627776)))
def MayV (N : Nat) (s : Int) (f : Int → Int) (g : Int → Int → Option Int) (e : Ev) : Prop :=
  (e.op = 0 ∧ (∃ r, g e.who (e.cell - N) = some r ∧ r / 8 % 8192 = f (e.cell - N) / 8 % 8192) ∧ f (2 * N + e.who) = e.cell - N + 1) ∨ (e.op = 1 ∧ e.who = (e.cell - N) / s ∧ f (e.cell - N) % 4 ≠ 1)
def MayH (N : Nat) (e : Ev) : Prop := e.op = 0 ∨ (e.op = 1 ∧ e.who = e.cell - 2 * N)
def MayN (so j : Int) (e : Ev) : Prop :=
  (so = 0 ∧ j = 0 ∧ e.op = 3 ∧ e.new = inc64 e.old) ∨ (so = 1 ∧ (e.op = 0 ∨ (e.op = 1 ∧ e.who = j ∧ e.old < e.new))) ∨ (so = 2 ∧ j = 0 ∧ (e.op = 0 ∨ (e.op = 2 ∧ (e.ok = false ∨ e.new = inc64 e.old))))
/-- May an event be, where the cells are f, and g tells what was loaded last? -/
def MayF (t s so : Int) (N : Nat) (f : Int → Int) (g : Int → Int → Option Int) (e : Ev) : Prop :=
  0 ≤ e.who ∧ e.who < t ∧ 0 ≤ e.cell ∧ e.cell < 2 * N + 2 * t ∧ e.old = f e.cell ∧
    if e.cell < N then MayW s e else if e.cell < 2 * N then MayV N s f g e else if e.cell < 2 * N + t then MayH N e else MayN so (e.cell - 2 * N - t) e
def May (t s so : Int) (N : Nat) (L : List Ev) (e : Ev) : Prop := MayF t s so N (lastE L) (loadE L) e
/-- All of them may be. -/
def AllMay (t s so : Int) (N : Nat) (L : List Ev) : Prop := ∀ i e, L[i]? = some e → May t s so N (L.take i) e
theorem AllMay.nil (t s so : Int) (N : Nat) : AllMay t s so N [] := fun i e h => by simp at h
theorem AllMay.snoc {t s so : Int} {N : Nat} {L : List Ev} {e : Ev} (h : AllMay t s so N L) (he : May t s so N L e) : AllMay t s so N (L ++ [e]) := fun i x hi => by
  rcases Nat.lt_or_ge i L.length with hl | hl
  · rw [List.getElem?_append_left hl] at hi
    rw [List.take_append_of_le_length (by omega)]
    exact h i x hi
  · rw [List.getElem?_append_right hl] at hi
    rcases (by omega : i - L.length = 0 ∨ 0 < i - L.length) with h0 | h0
    · rw [h0] at hi
      cases hi
      obtain rfl : i = L.length := by omega
      rw [List.take_left]
      exact he
    · rw [List.getElem?_eq_none (by show 1 ≤ _; omega)] at hi
      cases hi

end Go.Proofs.YtpfjommkjkbonaaGreat
