/-
  Which calls may have been done so: one by one, in the order of the list. No Go. No condition.
-/
import Derived.Test.YtgoncakjkippkabHistPure
namespace Go.Proofs.Ytgoncakjkippkab
open Go.RowKit
set_option linter.unusedVariables false

/-- Is the call one that may be? -/
def cOk (d : Dd) : Prop := (d.kd = 0 ∨ d.kd = 1) ∧ (d.e = 0 ∨ d.e = 1)
instance (d : Dd) : Decidable (cOk d) := inferInstanceAs (Decidable (_ ∧ _))
/-- The last one of a thread's, of the first i; -1 if there is none. -/
def dOwn (l : List Dd) (w : Int) : Nat → Int
  | 0 => -1
  | i + 1 => match l[i]? with
    | some o => if o.who = w then i else dOwn l w i
    | none => dOwn l w i
def rFrom (l : List Dd) (i : Nat) (d : Dd) : Prop := 0 ≤ d.fr ∧ ∀ j p, i = j + 1 → l[j]? = some p → p.fr < d.fr
def rTill (d : Dd) : Prop := 0 ≤ d.till → d.fr < d.till
def rApart (d o : Dd) : Prop := d.fr ≠ o.till ∧ (0 ≤ d.till → d.till ≠ o.till ∧ d.till ≠ o.fr)
def rMoves (l : List Dd) (i : Nat) (d : Dd) : Prop := ∀ k o, k < i → l[k]? = some o → rApart d o
def rOwn (l : List Dd) (i : Nat) (d : Dd) : Prop := ∀ k o, dOwn l d.who i = (k : Nat) → l[k]? = some o → dBef o d
structure ROk (l : List Dd) (i : Nat) (d : Dd) : Prop where
  call : cOk d
  frm : rFrom l i d
  till : rTill d
  moves : rMoves l i d
  own : rOwn l i d
/-- The first n may have been done so. -/
def DRight (l : List Dd) (n : Nat) : Prop := ∀ i d, i < n → l[i]? = some d → ROk l i d

section
variable {l : List Dd} {i : Nat} {d : Dd}

theorem DRight.zero : DRight l 0 := fun i d h => absurd h (Nat.not_lt_zero _)
theorem DRight.next (h : DRight l i) (hd : l[i]? = some d) (ho : ROk l i d) : DRight l (i + 1) := fun j o hj hl => by
  by_cases e : j = i
  · subst e
    rw [hd] at hl
    cases hl
    exact ho
  · exact h j o (by omega) hl
theorem DRight.not {n : Nat} (hd : l[i]? = some d) (hi : i < n) (hn : ¬ ROk l i d) : ¬ DRight l n := fun h => hn (h i d hi hd)
theorem dOwn_succ (h : l[i]? = some d) (w : Int) : dOwn l w (i + 1) = if d.who = w then (i : Int) else dOwn l w i := by
  rw [dOwn, h]
theorem dOwn_lt (w : Int) : ∀ i, -1 ≤ dOwn l w i ∧ dOwn l w i < i
  | 0 => by
    rw [dOwn]
    omega
  | i + 1 => by
    have ih := dOwn_lt w i
    rw [dOwn]
    split
    · split <;> omega
    · omega
/-- What the From ahead was, -1 at the first one. -/
def prevFr (l : List Dd) : Nat → Int
  | 0 => -1
  | i + 1 => match l[i]? with
    | some o => o.fr
    | none => -1
theorem prevFr_succ (h : l[i]? = some d) : prevFr l (i + 1) = d.fr := by rw [prevFr, h]
/-- All Froms ahead are less. -/
theorem DRight.below (h : DRight l i) (hi : i ≤ l.length) : -1 ≤ prevFr l i ∧ ∀ k o, k < i → l[k]? = some o → 0 ≤ o.fr ∧ o.fr ≤ prevFr l i := by
  induction i with
  | zero => exact ⟨Int.le_refl _, fun k o hk => absurd hk (Nat.not_lt_zero _)⟩
  | succ i ih =>
    have ih := ih (fun j d hj => h j d (by omega)) (by omega)
    have e : l[i]? = some (l[i]'(by omega)) := List.getElem?_eq_getElem (by omega)
    have ho := h i _ (Nat.lt_succ_self i) e
    have h0 := ho.frm.1
    rw [prevFr_succ e]
    have hlt : prevFr l i < (l[i]'(by omega)).fr := by
      cases i with
      | zero =>
        show (-1 : Int) < _
        omega
      | succ j =>
        have e2 : l[j]? = some (l[j]'(by omega)) := List.getElem?_eq_getElem (by omega)
        rw [prevFr_succ e2]
        exact ho.frm.2 j _ rfl e2
    refine ⟨by omega, fun k o hk hl => ?_⟩
    by_cases ek : k = i
    · subst ek
      rw [e] at hl
      cases hl
      exact ⟨h0, Int.le_refl _⟩
    · have := ih.2 k o (by omega) hl
      exact ⟨this.1, by omega⟩
theorem rFrom_of (h : DRight l i) (hi : i ≤ l.length) (hf : prevFr l i < d.fr) : rFrom l i d := by
  have hb := h.below hi
  refine ⟨by omega, fun j p hj hp => ?_⟩
  subst hj
  rw [prevFr_succ hp] at hf
  exact hf
theorem rFrom_not (hi : i ≤ l.length) (hf : d.fr ≤ prevFr l i) : ¬ rFrom l i d := fun h => by
  cases i with
  | zero =>
    have := h.1
    rw [prevFr] at hf
    omega
  | succ j =>
    have e : l[j]? = some (l[j]'(by omega)) := List.getElem?_eq_getElem (by omega)
    have := h.2 j _ rfl e
    rw [prevFr_succ e] at hf
    omega
/-- Is m a number of the first i? -/
def movM (l : List Dd) (i : Nat) (m : Int) : Bool := (l.take i).any (fun o => decide (m = o.fr) || (decide (0 ≤ o.till) && decide (m = o.till)))
theorem movM_iff {m : Int} : movM l i m = true ↔ ∃ k o, k < i ∧ l[k]? = some o ∧ (m = o.fr ∨ (0 ≤ o.till ∧ m = o.till)) := by
  unfold movM
  rw [List.any_eq_true]
  constructor
  · rintro ⟨o, ho, hm⟩
    obtain ⟨k, hk⟩ := List.mem_iff_getElem?.1 ho
    have hki := (List.getElem?_eq_some_iff.1 hk).1
    rw [List.length_take] at hki
    rw [List.getElem?_take_of_lt (by omega)] at hk
    simp only [Bool.or_eq_true, Bool.and_eq_true, decide_eq_true_eq] at hm
    exact ⟨k, o, by omega, hk, hm⟩
  · rintro ⟨k, o, hk, ho, hm⟩
    refine ⟨o, List.mem_iff_getElem?.2 ⟨k, by rw [List.getElem?_take_of_lt hk]; exact ho⟩, ?_⟩
    simp only [Bool.or_eq_true, Bool.and_eq_true, decide_eq_true_eq]
    exact hm
theorem movM_succ (h : l[i]? = some d) (m : Int) : movM l (i + 1) m = (movM l i m || (decide (m = d.fr) || (decide (0 ≤ d.till) && decide (m = d.till)))) := by
  unfold movM
  rw [List.take_add_one, h, List.any_append]
  simp
/-- The From is a number that was there: it is another one's end. -/
theorem from_known (h : DRight l i) (hi : i ≤ l.length) (hf : prevFr l i < d.fr) (hm : movM l i d.fr = true) : ¬ rMoves l i d := fun hr => by
  obtain ⟨k, o, hk, ho, hm⟩ := movM_iff.1 hm
  have := (h.below hi).2 k o hk ho
  rcases hm with hm | ⟨_, hm⟩
  · omega
  · exact (hr k o hk ho).1 hm
theorem from_fresh (h : DRight l i) (hi : i ≤ l.length) (hf : prevFr l i < d.fr) (hm : movM l i d.fr = false) : ∀ k o, k < i → l[k]? = some o → d.fr ≠ o.till := fun k o hk ho e => by
  have h0 := (h.below hi).1
  have : movM l i d.fr = true := movM_iff.2 ⟨k, o, hk, ho, .inr ⟨by omega, e⟩⟩
  rw [hm] at this
  cases this
theorem till_known (h0 : 0 ≤ d.till) (hm : movM l i d.till = true) : ¬ rMoves l i d := fun hr => by
  obtain ⟨k, o, hk, ho, hm⟩ := movM_iff.1 hm
  have := (hr k o hk ho).2 h0
  rcases hm with hm | ⟨_, hm⟩
  · exact this.2 hm
  · exact this.1 hm
theorem till_fresh (h0 : 0 ≤ d.till) (hm : movM l i d.till = false) : ∀ k o, k < i → l[k]? = some o → d.till ≠ o.till ∧ d.till ≠ o.fr := fun k o hk ho => by
  refine ⟨fun e => ?_, fun e => ?_⟩
  · have : movM l i d.till = true := movM_iff.2 ⟨k, o, hk, ho, .inr ⟨by omega, e⟩⟩
    rw [hm] at this
    cases this
  · have : movM l i d.till = true := movM_iff.2 ⟨k, o, hk, ho, .inl e⟩
    rw [hm] at this
    cases this
/-- What stands at each thread: the last one of its. -/
def lastF (l : List Dd) (i : Nat) (w : Int) : Int := max (dOwn l w i) 0
def lastM (l : List Dd) (i : Nat) (w : Int) : Bool := decide (0 ≤ dOwn l w i)
theorem rOwn_none (h : lastM l i d.who = false) : rOwn l i d := fun k o hk _ => by
  have := of_decide_eq_false h
  omega
theorem own_at_some (h : lastM l i d.who = true) (hi : i ≤ l.length) : ∃ (k : Nat) (o : Dd), lastF l i d.who = (k : Int) ∧ k < i ∧ l[k]? = some o ∧ (rOwn l i d ↔ dBef o d) := by
  have h0 := of_decide_eq_true h
  have h1 := (dOwn_lt (l := l) d.who i).2
  have e : l[(dOwn l d.who i).toNat]? = some (l[(dOwn l d.who i).toNat]'(by omega)) := List.getElem?_eq_getElem (by omega)
  refine ⟨(dOwn l d.who i).toNat, _, by unfold lastF; omega, by omega, e, fun hr => hr _ _ (by omega) e, fun hb k o hk ho => ?_⟩
  obtain rfl : k = (dOwn l d.who i).toNat := by omega
  rw [e] at ho
  cases ho
  exact hb
end
/-- A beginning of what may have been done so. -/
theorem dOwn_take {l : List Dd} {n : Nat} (w : Int) : ∀ {i : Nat}, i ≤ n → dOwn (l.take n) w i = dOwn l w i
  | 0, _ => rfl
  | i + 1, h => by
    rw [dOwn, dOwn, List.getElem?_take_of_lt (by omega), dOwn_take w (by omega)]
theorem DRight.take {l : List Dd} {n : Nat} (h : DRight l n) : DRight (l.take n) n := fun i d hi hd => by
  rw [List.getElem?_take_of_lt hi] at hd
  obtain ⟨h1, h2, h3, h4, h5⟩ := h i d hi hd
  refine ⟨h1, ⟨h2.1, fun j p hj hp => ?_⟩, h3, fun k o hk ho => ?_, fun k o hk ho => ?_⟩
  · rw [List.getElem?_take_of_lt (by omega)] at hp
    exact h2.2 j p hj hp
  · rw [List.getElem?_take_of_lt (by omega)] at ho
    exact h4 k o hk ho
  · rw [dOwn_take _ (by omega)] at hk
    have := (dOwn_lt (l := l) d.who i).2
    rw [List.getElem?_take_of_lt (by omega)] at ho
    exact h5 k o hk ho
end Go.Proofs.Ytgoncakjkippkab
