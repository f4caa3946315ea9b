/-
  How many calls are under way at one time, counted by what is added and taken off at each number: plain lemmas. No Go. No condition.
-/
import Derived.Test.YtkadjpllappalaaGreatHistPure
namespace Go.Proofs.YtkadjpllappalaaGreat
open Go.RowKit
set_option linter.unusedVariables false

/-- From which number on it isn't under way any more, if there is one. -/
def dCut (d : Dd) : Bool := decide (0 ≤ d.till ∧ d.till < 9223372036854775807)
def dEnd (d : Dd) : Int := max d.fr (d.till + 1)
/-- What a call adds at the number m. -/
def dAdd (d : Dd) (m : Int) : Int := (if m = d.fr then 1 else 0) - (if dCut d = true ∧ m = dEnd d then 1 else 0)
def dAdds (l : List Dd) (m : Int) : Int := (l.map (fun d => dAdd d m)).sum
/-- Is m one of the numbers? -/
def dKey (l : List Dd) (m : Int) : Bool := l.any (fun d => decide (m = d.fr) || (dCut d && decide (m = dEnd d)))
/-- How many are under way at m. -/
def dLive (l : List Dd) (m : Int) : Nat := l.countP (fun o => decide (o.fr ≤ m ∧ (o.till < 0 ∨ m ≤ o.till)))

theorem dUnder_live (l : List Dd) (d : Dd) : dUnder l d = dLive l d.fr := rfl

theorem dAdds_snoc {l : List Dd} {i : Nat} {d : Dd} (h : l[i]? = some d) (m : Int) : dAdds (l.take (i + 1)) m = dAdds (l.take i) m + dAdd d m := by
  unfold dAdds
  rw [List.take_add_one, h, List.map_append, List.sum_append]
  simp
theorem dKey_snoc {l : List Dd} {i : Nat} {d : Dd} (h : l[i]? = some d) (m : Int) : dKey (l.take (i + 1)) m = (dKey (l.take i) m || (decide (m = d.fr) || (dCut d && decide (m = dEnd d)))) := by
  unfold dKey
  rw [List.take_add_one, h, List.any_append]
  simp
theorem dAdd_bound (d : Dd) (m : Int) : -1 ≤ dAdd d m ∧ dAdd d m ≤ 1 := by
  unfold dAdd
  repeat' split
  all_goals omega
theorem dAdds_bound (m : Int) : ∀ l : List Dd, -(l.length : Int) ≤ dAdds l m ∧ dAdds l m ≤ l.length
  | [] => by simp [dAdds]
  | d :: l => by
    have h := dAdds_bound m l
    have k := dAdd_bound d m
    have e : dAdds (d :: l) m = dAdd d m + dAdds l m := by simp [dAdds]
    rw [e, List.length_cons]
    omega

theorem sum_add {α : Type} (f g : α → Int) : ∀ l : List α, (l.map (fun a => f a + g a)).sum = (l.map f).sum + (l.map g).sum
  | [] => rfl
  | a :: l => by
    have := sum_add f g l
    simp only [List.map_cons, List.sum_cons, this]
    omega
theorem sum_one (x : Int) : ∀ q : List Int, q.Pairwise (· < ·) → (q.map (fun m => if m = x then (1 : Int) else 0)).sum = if x ∈ q then 1 else 0
  | [], _ => by simp
  | a :: q, h => by
    obtain ⟨h1, h2⟩ := List.pairwise_cons.1 h
    have ih := sum_one x q h2
    rw [List.map_cons, List.sum_cons, ih]
    by_cases e : a = x
    · subst e
      have : ¬ a ∈ q := fun hm => by have := h1 a hm; omega
      rw [if_pos rfl, if_neg this, if_pos List.mem_cons_self]
      rfl
    · rw [if_neg e]
      have : (x ∈ a :: q) ↔ x ∈ q := by
        rw [List.mem_cons]
        exact ⟨fun h => h.elim (fun h => absurd h.symm e) id, .inr⟩
      by_cases hx : x ∈ q
      · rw [if_pos hx, if_pos (this.2 hx)]
        rfl
      · rw [if_neg hx, if_neg (fun h => hx (this.1 h))]
        rfl
/-- What stands in a rising row up to its place k: what isn't greater than what stands there. -/
theorem mem_take {ss : List Int} (hs : ss.Pairwise (· < ·)) {k : Nat} {m x : Int} (hm : ss[k]? = some m) (hx : x ∈ ss) : x ∈ ss.take (k + 1) ↔ x ≤ m := by
  obtain ⟨hk, rfl⟩ := List.getElem?_eq_some_iff.1 hm
  obtain ⟨i, hi, rfl⟩ := List.getElem_of_mem hx
  rw [List.pairwise_iff_getElem] at hs
  constructor
  · intro h
    obtain ⟨j, hj, e⟩ := List.getElem_of_mem h
    rw [List.length_take] at hj
    rw [List.getElem_take] at e
    rw [← e]
    rcases Nat.lt_or_ge j k with h2 | h2
    · exact Int.le_of_lt (hs j k _ _ h2)
    · obtain rfl : j = k := by omega
      exact Int.le_refl _
  · intro h
    have hik : i ≤ k := by
      rcases Nat.lt_or_ge k i with h2 | h2
      · have := hs k i hk hi h2
        omega
      · exact h2
    rw [List.mem_iff_getElem]
    exact ⟨i, by rw [List.length_take]; omega, by rw [List.getElem_take]⟩

/-- The sum of what is added up to the place k is how many are under way at the number there. -/
theorem sum_live {ss : List Int} (hs : ss.Pairwise (· < ·)) {k : Nat} {m : Int} (hm : ss[k]? = some m) (hm1 : m ≤ 9223372036854775807) : ∀ l : List Dd, (∀ d ∈ l, d.fr ∈ ss ∧ (dCut d = true → dEnd d ∈ ss)) → (∀ d ∈ l, d.till ≤ 9223372036854775807) → ((ss.take (k + 1)).map (dAdds l)).sum = dLive l m
  | [], _, _ => by
    have : ∀ q : List Int, (q.map (dAdds [])).sum = 0 := fun q => by
      induction q with
      | nil => rfl
      | cons a q ih => rw [List.map_cons, List.sum_cons, ih]; rfl
    exact this _
  | d :: l, h, ht => by
    have ih := sum_live hs hm hm1 l (fun d hd => h d (List.mem_cons_of_mem _ hd)) (fun d hd => ht d (List.mem_cons_of_mem _ hd))
    have hp : (ss.take (k + 1)).Pairwise (· < ·) := hs.sublist (List.take_sublist _ _)
    obtain ⟨h1, h2⟩ := h d List.mem_cons_self
    have h3 := ht d List.mem_cons_self
    have e1 : (fun m => dAdds (d :: l) m) = fun m => ((if m = d.fr then (1 : Int) else 0) + (if dCut d = true ∧ m = dEnd d then (-1) else 0)) + dAdds l m := by
      funext z
      unfold dAdds
      rw [List.map_cons, List.sum_cons]
      unfold dAdd
      repeat' split
      all_goals omega
    show ((ss.take (k + 1)).map (fun m => dAdds (d :: l) m)).sum = _
    rw [e1, sum_add, sum_add, ih, sum_one _ _ hp]
    have e2 : ((ss.take (k + 1)).map (fun m => if dCut d = true ∧ m = dEnd d then (-1 : Int) else 0)).sum = -(if dCut d = true ∧ dEnd d ≤ m then 1 else 0) := by
      by_cases hc : dCut d = true
      · have := sum_one (dEnd d) _ hp
        have e3 : ∀ q : List Int, (q.map (fun m => if dCut d = true ∧ m = dEnd d then (-1 : Int) else 0)).sum = -((q.map (fun m => if m = dEnd d then (1 : Int) else 0)).sum) := fun q => by
          induction q with
          | nil => rfl
          | cons a q ih =>
            rw [List.map_cons, List.sum_cons, ih, List.map_cons, List.sum_cons]
            by_cases e : a = dEnd d
            · rw [if_pos ⟨hc, e⟩, if_pos e]
              omega
            · rw [if_neg (fun h => e h.2), if_neg e]
              omega
        rw [e3, this]
        by_cases e : dEnd d ≤ m
        · rw [if_pos ((mem_take hs hm (h2 hc)).2 e), if_pos ⟨hc, e⟩]
        · rw [if_neg (fun h => e ((mem_take hs hm (h2 hc)).1 h)), if_neg (fun h => e h.2)]
      · have e3 : ∀ q : List Int, (q.map (fun m => if dCut d = true ∧ m = dEnd d then (-1 : Int) else 0)).sum = 0 := fun q => by
          induction q with
          | nil => rfl
          | cons a q ih => rw [List.map_cons, List.sum_cons, ih, if_neg (fun h => hc h.1)]; rfl
        rw [e3, if_neg (fun h => hc h.1)]
        rfl
    rw [e2]
    have e4 : (if d.fr ∈ ss.take (k + 1) then (1 : Int) else 0) = if d.fr ≤ m then 1 else 0 := by
      by_cases e : d.fr ≤ m
      · rw [if_pos ((mem_take hs hm h1).2 e), if_pos e]
      · rw [if_neg (fun h => e ((mem_take hs hm h1).1 h)), if_neg e]
    rw [e4]
    have e5 : (dLive (d :: l) m : Int) = (if d.fr ≤ m ∧ (d.till < 0 ∨ m ≤ d.till) then 1 else 0) + dLive l m := by
      unfold dLive
      rw [List.countP_cons]
      by_cases e : d.fr ≤ m ∧ (d.till < 0 ∨ m ≤ d.till)
      · rw [if_pos e, if_pos (by exact decide_eq_true e)]
        omega
      · rw [if_neg e, if_neg (by rw [decide_eq_false e]; decide)]
        omega
    rw [e5]
    have e6 : dCut d = true ↔ (0 ≤ d.till ∧ d.till < 9223372036854775807) := by unfold dCut; exact decide_eq_true_iff
    unfold dEnd
    by_cases hc : dCut d = true
    · have hc' := e6.1 hc
      simp only [hc, true_and]
      clear e1 e2 e4 e5 e6 ih hp hc h h1 h2 ht hs hm
      repeat' split
      all_goals omega
    · have hc' : ¬ (0 ≤ d.till ∧ d.till < 9223372036854775807) := fun h => hc (e6.2 h)
      simp only [hc, Bool.false_eq_true, false_and, if_false]
      clear e1 e2 e4 e5 e6 ih hp hc h h1 h2 ht hs hm
      repeat' split
      all_goals omega

theorem dLive_le (l : List Dd) (m : Int) : dLive l m ≤ l.length := List.countP_le_length
/-- The greatest of what is under way at the numbers ahead of the place k. -/
def mostAt (l : List Dd) (ss : List Int) : Nat → Nat
  | 0 => 0
  | k + 1 => max (mostAt l ss k) (match ss[k]? with | some m => dLive l m | none => 0)
/-- How many are under way at the number ahead of the place k. -/
def nowAt (l : List Dd) (ss : List Int) : Nat → Nat
  | 0 => 0
  | k + 1 => match ss[k]? with | some m => dLive l m | none => 0
theorem nowAt_succ (l : List Dd) (ss : List Int) (k : Nat) : nowAt l ss (k + 1) = match ss[k]? with | some m => dLive l m | none => 0 := rfl
theorem mostAt_succ (l : List Dd) (ss : List Int) (k : Nat) : mostAt l ss (k + 1) = max (mostAt l ss k) (match ss[k]? with | some m => dLive l m | none => 0) := rfl
theorem nowAt_le (l : List Dd) (ss : List Int) : ∀ k, nowAt l ss k ≤ l.length
  | 0 => Nat.zero_le _
  | k + 1 => by
    rw [nowAt_succ]
    split
    · exact dLive_le _ _
    · exact Nat.zero_le _
theorem mostAt_le (l : List Dd) (ss : List Int) : ∀ k, mostAt l ss k ≤ l.length
  | 0 => Nat.zero_le _
  | k + 1 => by
    have ih := mostAt_le l ss k
    rw [mostAt_succ]
    split
    · exact Nat.max_le.2 ⟨ih, dLive_le _ _⟩
    · exact Nat.max_le.2 ⟨ih, Nat.zero_le _⟩
theorem nowAt_sum {l : List Dd} {ss : List Int} (hs : ss.Pairwise (· < ·)) (hm1 : ∀ m ∈ ss, m ≤ 9223372036854775807) (h : ∀ d ∈ l, d.fr ∈ ss ∧ (dCut d = true → dEnd d ∈ ss)) (ht : ∀ d ∈ l, d.till ≤ 9223372036854775807) : ∀ {k : Nat}, k ≤ ss.length → (nowAt l ss k : Int) = ((ss.take k).map (dAdds l)).sum
  | 0, _ => by simp [nowAt]
  | k + 1, hk => by
    have e : ss[k]? = some (ss[k]'(by omega)) := List.getElem?_eq_getElem (by omega)
    rw [sum_live hs e (hm1 _ (List.getElem_mem _)) l h ht]
    rw [nowAt_succ, e]
theorem nowAt_next {l : List Dd} {ss : List Int} (hs : ss.Pairwise (· < ·)) (hm1 : ∀ m ∈ ss, m ≤ 9223372036854775807) (h : ∀ d ∈ l, d.fr ∈ ss ∧ (dCut d = true → dEnd d ∈ ss)) (ht : ∀ d ∈ l, d.till ≤ 9223372036854775807) {k : Nat} {m : Int} (hm : ss[k]? = some m) : (nowAt l ss k : Int) + dAdds l m = nowAt l ss (k + 1) := by
  have hk := (List.getElem?_eq_some_iff.1 hm).1
  rw [nowAt_sum hs hm1 h ht (by omega), nowAt_sum hs hm1 h ht (by omega), List.take_add_one, hm, List.map_append, List.sum_append]
  simp
theorem mostAt_next (l : List Dd) (ss : List Int) (k : Nat) : mostAt l ss (k + 1) = max (mostAt l ss k) (nowAt l ss (k + 1)) := rfl

theorem mostAt_ge {l : List Dd} {ss : List Int} {i : Nat} {m : Int} (hm : ss[i]? = some m) : ∀ {k : Nat}, i < k → dLive l m ≤ mostAt l ss k
  | 0, h => absurd h (Nat.not_lt_zero _)
  | k + 1, h => by
    rw [mostAt]
    by_cases e : i = k
    · subst e
      rw [hm]
      exact Nat.le_max_right _ _
    · exact Nat.le_trans (mostAt_ge hm (by omega)) (Nat.le_max_left _ _)
theorem dMost_ge {l : List Dd} {i : Nat} {d : Dd} (hd : l[i]? = some d) : ∀ {k : Nat}, i < k → dUnder l d ≤ dMost l k
  | 0, h => absurd h (Nat.not_lt_zero _)
  | k + 1, h => by
    rw [dMost]
    by_cases e : i = k
    · subst e
      rw [hd]
      exact Nat.le_max_right _ _
    · exact Nat.le_trans (dMost_ge hd (by omega)) (Nat.le_max_left _ _)
/-- Of some that aren't none one has the greatest From. -/
theorem greatest_from (p : Dd → Bool) : ∀ l : List Dd, 0 < l.countP p → ∃ d ∈ l, p d = true ∧ ∀ o ∈ l, p o = true → o.fr ≤ d.fr
  | [], h => by simp at h
  | a :: l, h => by
    by_cases hl : 0 < l.countP p
    · obtain ⟨d, hd, hp, hm⟩ := greatest_from p l hl
      by_cases ha : p a = true ∧ d.fr < a.fr
      · refine ⟨a, List.mem_cons_self, ha.1, fun o ho hpo => ?_⟩
        rcases List.mem_cons.1 ho with rfl | ho
        · exact Int.le_refl _
        · have := hm o ho hpo
          omega
      · refine ⟨d, List.mem_cons_of_mem _ hd, hp, fun o ho hpo => ?_⟩
        rcases List.mem_cons.1 ho with rfl | ho
        · rcases Int.lt_or_le d.fr o.fr with h1 | h1
          · exact absurd ⟨hpo, h1⟩ ha
          · exact h1
        · exact hm o ho hpo
    · rw [List.countP_cons] at h
      have ha : p a = true := by
        by_cases ha : p a = true
        · exact ha
        · rw [if_neg ha] at h
          omega
      refine ⟨a, List.mem_cons_self, ha, fun o ho hpo => ?_⟩
      rcases List.mem_cons.1 ho with rfl | ho
      · exact Int.le_refl _
      · exact absurd (List.countP_pos_iff.2 ⟨o, ho, hpo⟩) hl
/-- At whatever number no more are under way than at some call's beginning. -/
theorem dLive_le_most (l : List Dd) (m : Int) : dLive l m ≤ dMost l l.length := by
  rcases Nat.eq_zero_or_pos (dLive l m) with h0 | hp
  · rw [h0]
    exact Nat.zero_le _
  · obtain ⟨d, hd, hpd, hg⟩ := greatest_from _ l hp
    obtain ⟨i, hi⟩ := List.mem_iff_getElem?.1 hd
    refine Nat.le_trans ?_ (dMost_ge hi (List.getElem?_eq_some_iff.1 hi).1)
    rw [dUnder_live]
    refine List.countP_mono_left (fun o ho hpo => ?_)
    have h1 := hg o ho hpo
    simp only [decide_eq_true_eq] at hpd hpo ⊢
    exact ⟨h1, by omega⟩
theorem mostAt_most {l : List Dd} {ss : List Int} (h : ∀ d ∈ l, d.fr ∈ ss) : mostAt l ss ss.length = dMost l l.length := by
  refine Nat.le_antisymm ?_ ?_
  · have key : ∀ k, mostAt l ss k ≤ dMost l l.length := fun k => by
      induction k with
      | zero => exact Nat.zero_le _
      | succ k ih =>
        rw [mostAt]
        refine Nat.max_le.2 ⟨ih, ?_⟩
        split
        · exact dLive_le_most _ _
        · exact Nat.zero_le _
    exact key _
  · have key : ∀ k, dMost l k ≤ mostAt l ss ss.length := fun k => by
      induction k with
      | zero => exact Nat.zero_le _
      | succ k ih =>
        rw [dMost]
        refine Nat.max_le.2 ⟨ih, ?_⟩
        split
        · rename_i d hd
          obtain ⟨j, hj⟩ := List.mem_iff_getElem?.1 (h d (List.mem_of_getElem? hd))
          rw [dUnder_live]
          exact mostAt_ge hj (List.getElem?_eq_some_iff.1 hj).1
        · exact Nat.zero_le _
    exact key _
theorem dMost_le (l : List Dd) : ∀ k, dMost l k ≤ l.length
  | 0 => Nat.zero_le _
  | k + 1 => by
    have ih := dMost_le l k
    rw [dMost]
    refine Nat.max_le.2 ⟨ih, ?_⟩
    split
    · exact List.countP_le_length
    · exact Nat.zero_le _
end Go.Proofs.YtkadjpllappalaaGreat
