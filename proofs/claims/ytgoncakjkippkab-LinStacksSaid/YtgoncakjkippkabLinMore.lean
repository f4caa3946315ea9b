/-
  Stacks and queues as rows with two ends; calls of one thread have one order alone. No Go. No condition.
-/
import Derived.Test.YtgoncakjkippkabLinPure
namespace Go.Proofs.Ytgoncakjkippkab
open Go.RowKit
set_option linter.unusedVariables false

/-- One that puts in at the right, and was answered so; one that has it at an end; one that tells that there is nothing. -/
def lPut (v : Int) : Dd := ⟨0, 0, 1, v, 0, 0, 0, true, 0, 0, 0⟩
def lGet (e v : Int) : Dd := ⟨0, 1, e, 0, 0, 0, 0, true, v, 0, 0⟩
def lNone : Dd := ⟨0, 1, 0, 0, 0, 0, 0, false, 0, 0, 0⟩
theorem dDo_put (row : List Int) (v : Int) : dDo row (lPut v) = some (row ++ [v]) := by
  unfold dDo
  rw [if_pos (show (lPut v).kd = 0 from rfl), if_pos (show (lPut v).ok = true from rfl), if_neg (show ¬ (lPut v).e = 0 by show ¬ (1 : Int) = 0; decide)]
  rfl
theorem dDo_left (row : List Int) (v : Int) : dDo (v :: row) (lGet 0 v) = some row := by
  unfold dDo
  rw [if_neg (show ¬ (lGet 0 v).kd = 0 by show ¬ (1 : Int) = 0; decide), if_pos (show (lGet 0 v).ok = true from rfl), if_neg (by simp), if_pos (show (lGet 0 v).e = 0 from rfl), if_pos (by rfl)]
  rfl
theorem dDo_right (row : List Int) (v : Int) : dDo (row ++ [v]) (lGet 1 v) = some row := by
  unfold dDo
  rw [if_neg (show ¬ (lGet 1 v).kd = 0 by show ¬ (1 : Int) = 0; decide), if_pos (show (lGet 1 v).ok = true from rfl), if_neg (by simp), if_neg (show ¬ (lGet 1 v).e = 0 by show ¬ (1 : Int) = 0; decide), if_pos]
  · rw [List.length_append, List.length_singleton, Nat.add_sub_cancel, List.take_left']
    rfl
  · rw [List.length_append, List.length_singleton, Nat.add_sub_cancel, List.getD_eq_getElem?_getD, List.getElem?_append_right (Nat.le_refl _), Nat.sub_self]
    rfl
theorem run_puts : ∀ (vs row : List Int), dRun row (vs.map lPut) = some (row ++ vs)
  | [], row => by simp [dRun]
  | v :: vs, row => by
    rw [List.map_cons, dRun_cons (dDo_put row v), run_puts vs]
    simp
theorem run_lefts : ∀ vs : List Int, dRun vs (vs.map (lGet 0)) = some []
  | [] => rfl
  | v :: vs => by rw [List.map_cons, dRun_cons (dDo_left vs v), run_lefts vs]
theorem run_rights : ∀ vs : List Int, dRun vs.reverse (vs.map (lGet 1)) = some []
  | [] => rfl
  | v :: vs => by rw [List.map_cons, List.reverse_cons, dRun_cons (dDo_right vs.reverse v), run_rights vs]
theorem run_stack (vs : List Int) : dRun [] (vs.map lPut ++ vs.reverse.map (lGet 1) ++ [lNone]) = some [] := by
  rw [dRun_append, dRun_append, run_puts, List.nil_append]
  show (dRun vs _).bind _ = _
  have h := run_rights vs.reverse
  rw [List.reverse_reverse] at h
  rw [h]
  rfl
theorem run_queue (vs : List Int) : dRun [] (vs.map lPut ++ vs.map (lGet 0) ++ [lNone]) = some [] := by
  rw [dRun_append, dRun_append, run_puts, List.nil_append]
  show (dRun vs _).bind _ = _
  rw [run_lefts]
  rfl
theorem run_not (v : Int) : dRun [] [lPut v, lNone] = none := by
  rw [dRun_cons (dDo_put [] v)]
  rfl

/-- Calls of one thread, one behind the other. -/
def OneBy (l : List Dd) : Prop := ∀ (i : Nat) (d : Dd), l[i]? = some d → d.fr = 2 * (i : Int) ∧ d.till = 2 * (i : Int) + 1
theorem oRun_range {l : List Dd} (h : OneBy l) : ∀ (n i : Nat) (row : List Int), i + n = l.length → oRun l row (List.range' i n) = dRun row (l.drop i)
  | 0, i, row, hi => by
    rw [List.drop_of_length_le (by omega)]
    rfl
  | n + 1, i, row, hi => by
    have hd : l[i]? = some (l[i]'(by omega)) := List.getElem?_eq_getElem (by omega)
    have hda : dAns row (l[i]'(by omega)) = l[i]'(by omega) := if_pos (by have := (h i _ hd).2; omega)
    rw [List.range'_succ, List.drop_eq_getElem_cons (by omega), oRun, hd]
    show (dDo row (dAns row (l[i]'(by omega)))).bind _ = _
    rw [hda]
    cases hr : dDo row (l[i]'(by omega)) with
    | none => rw [dRun_none hr]; rfl
    | some r =>
      rw [dRun_cons hr]
      exact oRun_range h n (i + 1) r (by omega)
theorem oRun_in {l : List Dd} : ∀ {s : List Nat} {row r : List Int}, oRun l row s = some r → ∀ i ∈ s, i < l.length
  | [], _, _, _, i, hi => by cases hi
  | j :: s, row, r, h, i, hi => by
    cases hd : l[j]? with
    | none => rw [oRun, hd] at h; cases h
    | some d =>
      rw [oRun, hd] at h
      have h' : (dDo row (dAns row d)).bind (fun r => oRun l r s) = some r := h
      rcases List.mem_cons.1 hi with rfl | hi
      · exact (List.getElem?_eq_some_iff.1 hd).1
      · cases hr : dDo row (dAns row d) with
        | none => rw [hr] at h'; cases h'
        | some r' =>
          rw [hr] at h'
          exact oRun_in (show oRun l r' s = some r from h') i hi
theorem one_order {l : List Dd} {s : List Nat} (h : OneBy l) (hs : Holds l (fun _ => False) [] s) : s = List.range l.length ∧ ∃ r, dRun [] l = some r := by
  obtain ⟨r, hr⟩ := hs.run
  have hin := oRun_in hr
  have hp : s.Pairwise (· < ·) := by
    rw [List.pairwise_iff_getElem]
    intro p q hpl hql hpq
    have hsp : s[p]? = some s[p] := List.getElem?_eq_getElem hpl
    have hsq : s[q]? = some s[q] := List.getElem?_eq_getElem hql
    have i1 := hin _ (List.getElem_mem hpl)
    have i2 := hin _ (List.getElem_mem hql)
    rcases Nat.lt_trichotomy s[p] s[q] with h1 | h1 | h1
    · exact h1
    · exact absurd h1 (List.pairwise_iff_getElem.1 hs.nodup p q hpl hql hpq)
    · exfalso
      have ha := h s[p] _ (List.getElem?_eq_getElem i1)
      have hb := h s[q] _ (List.getElem?_eq_getElem i2)
      rcases hs.ahead p s[p] s[q] _ _ hsp (List.getElem?_eq_getElem i1) (List.getElem?_eq_getElem i2) ⟨by omega, by omega⟩ with h2 | ⟨q', hq', h2⟩
      · exact h2
      · obtain ⟨h3, h4⟩ := List.getElem?_eq_some_iff.1 h2
        exact List.pairwise_iff_getElem.1 hs.nodup q' q h3 hql (by omega) h4
  have he : s = List.range l.length := by
    have hperm : s.Perm (List.range l.length) := (List.perm_ext_iff_of_nodup hs.nodup List.nodup_range).2 (fun i => by
      rw [List.mem_range]
      refine ⟨hin i, fun hi => ?_⟩
      have hd := List.getElem?_eq_getElem hi
      have := h i _ hd
      exact (hs.all i _ hd (by omega)).resolve_left id)
    exact List.Perm.eq_of_pairwise (le := fun a b => a ≤ b) (fun a b _ _ h1 h2 => Nat.le_antisymm h1 h2) (hp.imp Nat.le_of_lt) (List.pairwise_lt_range.imp Nat.le_of_lt) hperm
  refine ⟨he, r, ?_⟩
  have h9 := oRun_range h l.length 0 [] (by omega)
  rw [List.drop_zero, ← List.range_eq_range'] at h9
  rw [← h9, ← he]
  exact hr
theorem order_one {l : List Dd} (h : OneBy l) {r : List Int} (hr : dRun [] l = some r) : Holds l (fun _ => False) [] (List.range l.length) := by
  refine ⟨List.nodup_range, fun i _ hf => hf, fun i d hd _ => .inr (List.mem_range.2 (List.getElem?_eq_some_iff.1 hd).1), fun p i k d o hp hd ho hb => ?_, r, ?_⟩
  · have hpl := (List.getElem?_eq_some_iff.1 hp).1
    rw [List.length_range] at hpl
    rw [List.getElem?_range hpl] at hp
    cases hp
    have h1 := h p d hd
    have h2 := h k o ho
    have hkp : k < p := by
      have := hb.2
      omega
    exact .inr ⟨k, hkp, List.getElem?_range (by omega)⟩
  · have h9 := oRun_range h l.length 0 [] (by omega)
    rw [List.drop_zero, ← List.range_eq_range'] at h9
    rw [h9]
    exact hr
end Go.Proofs.Ytgoncakjkippkab
