/-
  Plain lemmas, over any program: several things that a call holds, each in blocks of its own; a struct in a block; rows of numbers. No condition.
-/
import Derived.Test.YtkdfgdhfjaapiaaDoorProg
import Derived.Test.YtkdfgdhfjaapiaaDoorFrame
namespace Go.Proofs.YtkdfgdhfjaapiaaDoor
open Go.RowKit
set_option linter.unusedVariables false

abbrev pt (p : Nat) : Value := .pointer (some ⟨p, 0, none⟩)
theorem addr_add' (b off i : Nat) : ({ block := b, off := off, spot := none } : Addr).add i = { block := b, off := off + i, spot := none } := by
  unfold Addr.add
  split
  · rename_i h
    subst h
    rfl
  · rfl

/-- Something that lies in blocks F. -/
structure Thing where
  P : World → Prop
  F : Nat → Prop

structure Thing.Ok (base : Nat) (A : Thing) : Prop where
  keep : ∀ (w w' : World) (T : Nat → Prop), A.P w → Keep T w w' → (∀ i, A.F i → ¬ T i) → A.P w'
  lt : ∀ (w : World) (i : Nat), A.P w → A.F i → base ≤ i ∧ i < w.heap.size

/-- All that a call holds which began in W. -/
structure Hold (W w : World) (l : List Thing) : Prop where
  size : W.heap.size ≤ w.heap.size
  below : Below W.heap.size W w
  ok : ∀ (i : Nat) (A : Thing), l[i]? = some A → A.Ok W.heap.size
  has : ∀ (i : Nat) (A : Thing), l[i]? = some A → A.P w
  apart : ∀ (i j : Nat) (A B : Thing), l[i]? = some A → l[j]? = some B → i ≠ j → ∀ k, A.F k → ¬ B.F k

section
variable {W w w' : World} {l : List Thing}

theorem Hold.nil {W w : World} (h : Below W.heap.size W w) : Hold W w [] := ⟨h.size, h, (fun _ _ h => by simp at h), (fun _ _ h => by simp at h), fun _ _ _ _ h => by simp at h⟩

theorem Hold.keep0 (h : Hold W w l) {T : Nat → Prop} (k : Keep T w w') (hT : ∀ i, T i → W.heap.size ≤ i) (hn : ∀ (i : Nat) (A : Thing), l[i]? = some A → ∀ q, A.F q → ¬ T q) : Hold W w' l :=
  ⟨Nat.le_trans h.size k.size, below_keep h.below k h.size hT, h.ok, fun i A hi => (h.ok i A hi).keep w w' T (h.has i A hi) k (hn i A hi), h.apart⟩
theorem Hold.later (h : Hold W w l) (e : Below w.heap.size w w') : Hold W w' l :=
  h.keep0 (T := fun _ => False) (Keep.of_below e) (fun _ h => h.elim) (fun _ _ _ _ _ h => h)
theorem Hold.drew (h : Hold W w l) : Hold W w.drew l := h.later (Below.refl _ _).drew

theorem set_cases {l : List Thing} {i j : Nat} {A B A' : Thing} (hi : l[i]? = some A) (hj : (l.set i A')[j]? = some B) : (i = j ∧ B = A') ∨ (i ≠ j ∧ l[j]? = some B) := by
  rw [List.getElem?_set] at hj
  by_cases h : i = j
  · subst h
    rw [if_pos rfl, if_pos (List.getElem?_eq_some_iff.1 hi).1] at hj
    exact .inl ⟨rfl, (Option.some.inj hj).symm⟩
  · rw [if_neg h] at hj
    exact .inr ⟨h, hj⟩

/-- One thing is turned. -/
theorem Hold.turn (h : Hold W w l) (i : Nat) {A A' : Thing} (hi : l[i]? = some A) (k : Keep A.F w w') (ok' : A'.Ok W.heap.size) (hP : A'.P w') (hF : ∀ q, A'.F q → A.F q ∨ w.heap.size ≤ q) : Hold W w' (l.set i A') := by
  have hlt := fun q => (h.ok i A hi).lt w q (h.has i A hi)
  have hold : ∀ (j : Nat) (B : Thing), l[j]? = some B → i ≠ j → B.P w' := fun j B hj hne => (h.ok j B hj).keep w w' A.F (h.has j B hj) k (fun q hq => h.apart j i B A hj hi (fun e => hne e.symm) q hq)
  refine ⟨Nat.le_trans h.size k.size, below_keep h.below k h.size (fun q hq => (hlt q hq).1), fun j B hj => ?_, fun j B hj => ?_, fun j e B E hj he hne q hq hq' => ?_⟩
  · rcases set_cases hi hj with ⟨_, rfl⟩ | ⟨_, hj⟩
    · exact ok'
    · exact h.ok j B hj
  · rcases set_cases hi hj with ⟨_, rfl⟩ | ⟨hij, hj⟩
    · exact hP
    · exact hold j B hj hij
  · rcases set_cases hi hj with ⟨h1, rfl⟩ | ⟨h1, hj1⟩
    · rcases set_cases hi he with ⟨h2, rfl⟩ | ⟨h2, he1⟩
      · omega
      · rcases hF q hq with h3 | h3
        · exact h.apart i e A E hi he1 h2 q h3 hq'
        · have := ((h.ok e E he1).lt w q (h.has e E he1) hq').2
          omega
    · rcases set_cases hi he with ⟨h2, rfl⟩ | ⟨h2, he1⟩
      · rcases hF q hq' with h3 | h3
        · exact h.apart j i B A hj1 hi (fun e => h1 e.symm) q hq h3
        · have := ((h.ok j B hj1).lt w q (h.has j B hj1) hq).2
          omega
      · exact h.apart j e B E hj1 he1 hne q hq hq'

/-- Two things are turned. -/
theorem Hold.turn2 (h : Hold W w l) (i j : Nat) {A A' B B' : Thing} (hne : i ≠ j) (hi : l[i]? = some A) (hj : l[j]? = some B) (k : Keep (fun q => B.F q ∨ A.F q) w w') (okA : A'.Ok W.heap.size) (okB : B'.Ok W.heap.size) (hA : A'.P w') (hB : B'.P w')
    (hFA : ∀ q, A'.F q → A.F q ∨ w.heap.size ≤ q) (hFB : ∀ q, B'.F q → B.F q) : Hold W w' ((l.set i A').set j B') := by
  have hj' : (l.set i A')[j]? = some B := by rw [List.getElem?_set, if_neg hne]; exact hj
  have hltA := fun q => (h.ok i A hi).lt w q (h.has i A hi)
  have hltB := fun q => (h.ok j B hj).lt w q (h.has j B hj)
  have hold : ∀ (e : Nat) (E : Thing), l[e]? = some E → i ≠ e → j ≠ e → E.P w' := fun e E he h1 h2 => (h.ok e E he).keep w w' _ (h.has e E he) k (fun q hq hc => hc.elim (h.apart e j E B he hj (fun x => h2 x.symm) q hq) (h.apart e i E A he hi (fun x => h1 x.symm) q hq))
  have cases2 : ∀ (e : Nat) (E : Thing), ((l.set i A').set j B')[e]? = some E → (e = j ∧ E = B') ∨ (e = i ∧ E = A') ∨ (i ≠ e ∧ j ≠ e ∧ l[e]? = some E) := by
    intro e E he
    rcases set_cases hj' he with ⟨h1, rfl⟩ | ⟨h1, he⟩
    · exact .inl ⟨h1.symm, rfl⟩
    · rcases set_cases hi he with ⟨h2, rfl⟩ | ⟨h2, he⟩
      · exact .inr (.inl ⟨h2.symm, rfl⟩)
      · exact .inr (.inr ⟨h2, h1, he⟩)
  have AB : ∀ q, A'.F q → B'.F q → False := fun q h1 h2 => by
    rcases hFA q h1 with h3 | h3
    · exact h.apart i j A B hi hj hne q h3 (hFB q h2)
    · have := (hltB q (hFB q h2)).2
      omega
  have AE : ∀ (e : Nat) (E : Thing) (q : Nat), l[e]? = some E → i ≠ e → E.F q → A'.F q → False := fun e E q he h1 h2 h3 => by
    rcases hFA q h3 with h4 | h4
    · exact h.apart i e A E hi he h1 q h4 h2
    · have := ((h.ok e E he).lt w q (h.has e E he) h2).2
      omega
  have BE : ∀ (e : Nat) (E : Thing) (q : Nat), l[e]? = some E → j ≠ e → E.F q → B'.F q → False := fun e E q he h1 h2 h3 => h.apart j e B E hj he h1 q (hFB q h3) h2
  refine ⟨Nat.le_trans h.size k.size, below_keep h.below k h.size (fun q hq => hq.elim (fun h => (hltB q h).1) (fun h => (hltA q h).1)), fun e E he => ?_, fun e E he => ?_, fun e f E G he hf hef q hq hq' => ?_⟩
  · rcases cases2 e E he with ⟨_, rfl⟩ | ⟨_, rfl⟩ | ⟨_, _, he⟩
    · exact okB
    · exact okA
    · exact h.ok e E he
  · rcases cases2 e E he with ⟨_, rfl⟩ | ⟨_, rfl⟩ | ⟨h1, h2, he⟩
    · exact hB
    · exact hA
    · exact hold e E he h1 h2
  · rcases cases2 e E he with ⟨h1, rfl⟩ | ⟨h1, rfl⟩ | ⟨h1, h2, he1⟩
    · rcases cases2 f G hf with ⟨h3, rfl⟩ | ⟨h3, rfl⟩ | ⟨h3, h4, hf1⟩
      · omega
      · exact AB q hq' hq
      · exact BE f G q hf1 h4 hq' hq
    · rcases cases2 f G hf with ⟨h3, rfl⟩ | ⟨h3, rfl⟩ | ⟨h3, h4, hf1⟩
      · exact AB q hq hq'
      · omega
      · exact AE f G q hf1 h3 hq' hq
    · rcases cases2 f G hf with ⟨h3, rfl⟩ | ⟨h3, rfl⟩ | ⟨h3, h4, hf1⟩
      · exact BE e E q he1 h2 hq hq'
      · exact AE e E q he1 h1 hq hq'
      · exact h.apart e f E G he1 hf1 hef q hq hq'

/-- Something new. -/
theorem Hold.more (h : Hold W w l) {A : Thing} (e : Below w.heap.size w w') (ok : A.Ok W.heap.size) (hP : A.P w') (hF : ∀ q, A.F q → w.heap.size ≤ q) : Hold W w' (l ++ [A]) := by
  have h' := h.later e
  have cs : ∀ (i : Nat) (B : Thing), (l ++ [A])[i]? = some B → l[i]? = some B ∨ (i = l.length ∧ B = A) := by
    intro i B hi
    rcases Nat.lt_or_ge i l.length with hl | hl
    · rw [List.getElem?_append_left hl] at hi
      exact .inl hi
    · rw [List.getElem?_append_right hl] at hi
      rcases (by omega : i - l.length = 0 ∨ 1 ≤ i - l.length) with h0 | h0
      · rw [h0] at hi
        exact .inr ⟨by omega, (Option.some.inj hi).symm⟩
      · rw [List.getElem?_eq_none (by simpa using h0)] at hi
        cases hi
  refine ⟨h'.size, h'.below, fun i B hi => ?_, fun i B hi => ?_, fun i j B E hi hj hne q hq hq' => ?_⟩
  · rcases cs i B hi with hi | ⟨_, rfl⟩
    · exact h.ok i B hi
    · exact ok
  · rcases cs i B hi with hi | ⟨_, rfl⟩
    · exact h'.has i B hi
    · exact hP
  · rcases cs i B hi with hi1 | ⟨h1, rfl⟩
    · rcases cs j E hj with hj1 | ⟨h2, rfl⟩
      · exact h.apart i j B E hi1 hj1 hne q hq hq'
      · have := ((h.ok i B hi1).lt w q (h.has i B hi1) hq).2
        have := hF q hq'
        omega
    · rcases cs j E hj with hj1 | ⟨h2, rfl⟩
      · have := ((h.ok j E hj1).lt w q (h.has j E hj1) hq').2
        have := hF q hq
        omega
      · omega

/-- The first ones alone. -/
theorem Hold.less {m : List Thing} (h : Hold W w (l ++ m)) : Hold W w l :=
  have up : ∀ (i : Nat) (A : Thing), l[i]? = some A → (l ++ m)[i]? = some A := fun i A hi => by rw [List.getElem?_append_left (List.getElem?_eq_some_iff.1 hi).1]; exact hi
  ⟨h.size, h.below, fun i A hi => h.ok i A (up i A hi), fun i A hi => h.has i A (up i A hi), fun i j A B hi hj => h.apart i j A B (up i A hi) (up j B hj)⟩

/-- What came from outside is as it was. -/
theorem Hold.old (h : Hold W w l) {a : Addr} {x : Value} (ha : a.block < W.heap.size) (hx : W.cell? a = some x) : w.cell? a = some x := (h.below.cell (p := a) ha).trans hx
end

/-- A struct in a block. -/
structure IsObj (w : World) (b : Nat) (xs : List Value) : Prop where
  at' : ∀ j x, xs[j]? = some x → w.cell? ⟨b, j, none⟩ = some x
  fz : ∀ o, w.frozen? ⟨b, o, none⟩ = false
  lt : b < w.heap.size

section
variable {w w' : World} {b : Nat} {xs : List Value}
theorem IsObj.keep {T : Nat → Prop} (h : IsObj w b xs) (e : Keep T w w') (hn : ¬ T b) : IsObj w' b xs :=
  ⟨fun j x hx => e.cell (h.at' j x hx) hn, fun o => (e.frozen (a := ⟨b, o, none⟩) h.lt hn).trans (h.fz o), Nat.lt_of_lt_of_le h.lt e.size⟩
theorem IsObj.later (h : IsObj w b xs) (e : Below w.heap.size w w') : IsObj w' b xs := h.keep (T := fun _ => False) (Keep.of_below e) (fun h => h)
theorem IsObj.drew (h : IsObj w b xs) : IsObj w.drew b xs := ⟨h.at', h.fz, h.lt⟩
theorem IsObj.set (h : IsObj w b xs) (i : Nat) (u : Value) : IsObj (w.setCell ⟨b, i, none⟩ u) b (xs.set i u) := by
  refine ⟨fun j x hj => ?_, fun o => by rw [World.frozen?_setCell]; exact h.fz o, by simpa [World.setCell] using h.lt⟩
  rw [List.getElem?_set] at hj
  by_cases hij : i = j
  · subst hij
    rw [if_pos rfl] at hj
    split at hj
    · rename_i hl
      cases hj
      exact World.cell?_setCell_same _ _ _ (h.at' i _ (List.getElem?_eq_getElem hl))
    · cases hj
  · rw [if_neg hij] at hj
    rw [World.cell?_setCell_other _ _ _ _ (fun e => hij (by injection e))]
    exact h.at' j x hj
theorem IsObj.other {a : Nat} (h : IsObj w b xs) (i : Nat) (u : Value) (hne : a ≠ b) : IsObj (w.setCell ⟨a, i, none⟩ u) b xs :=
  ⟨fun j x hj => by rw [World.cell?_setCell_other _ _ _ _ (fun e => hne (by injection e))]; exact h.at' j x hj, fun o => by rw [World.frozen?_setCell]; exact h.fz o, by simpa [World.setCell] using h.lt⟩
theorem IsObj.made (w : World) (xs : List Value) (t : TypeId) : IsObj (w.alloc (.cells ⟨xs⟩ t)) w.heap.size xs :=
  ⟨fun j x hj => by
    have h := World.cell?_alloc_new w ⟨xs⟩ t j
    rw [← Array.getElem?_toList] at h
    exact h.trans hj, fun o => World.frozen?_alloc_at _ _ _ _ rfl, by simp⟩
end

def tRow (base : Nat) (e : TypeId) (sz : Nat) (v : Value) (n : Nat) (xs : List Value) : Thing := ⟨fun w => w.ownsRow base e sz v n xs, fun k => v.ownBlock = some k⟩
def tObj (base b : Nat) (xs : List Value) : Thing := ⟨fun w => IsObj w b xs ∧ base ≤ b, fun i => i = b⟩

theorem tRow_ok (base : Nat) (e : TypeId) (sz : Nat) (v : Value) (n : Nat) (xs : List Value) : (tRow base e sz v n xs).Ok base :=
  ⟨fun _ _ _ h k hn => k.row h hn, fun _ i h hi => World.ownsRow.lt h i hi⟩
theorem tObj_ok (base b : Nat) (xs : List Value) : (tObj base b xs).Ok base :=
  ⟨fun _ _ _ h k hn => ⟨h.1.keep k (hn b rfl), h.2⟩, fun _ i h hi => by cases hi; exact ⟨h.2, h.1.lt⟩⟩

end Go.Proofs.YtkdfgdhfjaapiaaDoor
