/-
  Calls one behind the other, as data: a row behind a call that was answered so; whether calls can be done so; an order of calls, step by step and as a whole. No Go. No condition.
-/
import Derived.Test.YtgoncakjkippkabHistPure
namespace Go.Proofs.Ytgoncakjkippkab
open Go.RowKit
set_option linter.unusedVariables false

/-- A row behind a call that was answered so; none: it can't be. -/
def dDo (row : List Int) (d : Dd) : Option (List Int) :=
  if d.kd = 0 then if d.ok = true then some (if d.e = 0 then d.x :: row else row ++ [d.x]) else some row
  else if d.ok = true then
    if row = [] then none
    else if d.e = 0 then if row.getD 0 0 = d.v then some (row.drop 1) else none
    else if row.getD (row.length - 1) 0 = d.v then some (row.take (row.length - 1)) else none
  else if row = [] then some row else none
/-- The row behind calls, one behind the other. -/
def dRun : List Int → List Dd → Option (List Int)
  | row, [] => some row
  | row, d :: l => match dDo row d with
    | some r => dRun r l
    | none => none
theorem dRun_cons {row r : List Int} {d : Dd} {l : List Dd} (h : dDo row d = some r) : dRun row (d :: l) = dRun r l := by rw [dRun, h]
theorem dRun_none {row : List Int} {d : Dd} {l : List Dd} (h : dDo row d = none) : dRun row (d :: l) = none := by rw [dRun, h]
theorem dRun_append (b : List Dd) : ∀ (a : List Dd) (row : List Int), dRun row (a ++ b) = (dRun row a).bind (fun r => dRun r b)
  | [], row => rfl
  | d :: a, row => by
    cases h : dDo row d with
    | none => rw [List.cons_append, dRun_none h, dRun_none h]; rfl
    | some r => rw [List.cons_append, dRun_cons h, dRun_cons h, dRun_append b a r]
theorem dRun_snoc {l : List Dd} {i : Nat} {d : Dd} (h : l[i]? = some d) (row : List Int) : dRun row (l.take (i + 1)) = (dRun row (l.take i)).bind (fun r => dDo r d) := by
  rw [List.take_add_one, h, dRun_append]
  congr 1
  funext r
  show dRun r [d] = _
  cases hd : dDo r d with
  | none => rw [dRun_none hd]
  | some r' => rw [dRun_cons hd]; rfl
theorem dDo_len {row r : List Int} {d : Dd} (h : dDo row d = some r) : r.length ≤ row.length + 1 := by
  unfold dDo at h
  split at h
  · split at h
    · cases h
      split
      · simp
      · simp
    · cases h
      omega
  · split at h
    · split at h
      · cases h
      · split at h
        · split at h
          · cases h
            rw [List.length_drop]
            omega
          · cases h
        · split at h
          · cases h
            rw [List.length_take]
            omega
          · cases h
    · split at h
      · cases h
        omega
      · cases h
theorem dRun_len : ∀ {l : List Dd} {row r : List Int}, dRun row l = some r → r.length ≤ row.length + l.length
  | [], row, r, h => by cases h; simp
  | d :: l, row, r, h => by
    cases hd : dDo row d with
    | none => rw [dRun_none hd] at h; cases h
    | some r' =>
      rw [dRun_cons hd] at h
      have h1 := dRun_len h
      have h2 := dDo_len hd
      rw [List.length_cons]
      omega
/-- What can be done can be done up to any call. -/
theorem dRun_take {l : List Dd} {row r : List Int} (h : dRun row l = some r) (m : Nat) : ∃ r', dRun row (l.take m) = some r' := by
  have e := dRun_append (l.drop m) (l.take m) row
  rw [List.take_append_drop, h] at e
  cases hr : dRun row (l.take m) with
  | none => rw [hr] at e; cases e
  | some r' => exact ⟨r', rfl⟩

/-- The other end. -/
def dTurn (d : Dd) : Dd := { d with e := 1 - d.e }
theorem getD_rev {row : List Int} (h : row ≠ []) : row.reverse.getD 0 0 = row.getD (row.length - 1) 0 ∧ row.reverse.getD (row.reverse.length - 1) 0 = row.getD 0 0 := by
  have hl : 0 < row.length := List.length_pos_iff.2 h
  constructor
  · rw [List.getD_eq_getElem?_getD, List.getD_eq_getElem?_getD, List.getElem?_reverse hl]
    rfl
  · rw [List.getD_eq_getElem?_getD, List.getD_eq_getElem?_getD, List.getElem?_reverse (by rw [List.length_reverse]; omega), List.length_reverse]
    rw [show row.length - 1 - (row.length - 1) = 0 by omega]
theorem dDo_turn (row : List Int) (d : Dd) (he : d.e = 0 ∨ d.e = 1) : dDo row.reverse (dTurn d) = (dDo row d).map List.reverse := by
  have hd : (dTurn d).kd = d.kd ∧ (dTurn d).ok = d.ok ∧ (dTurn d).x = d.x ∧ (dTurn d).v = d.v := ⟨rfl, rfl, rfl, rfl⟩
  have hte : (dTurn d).e = 1 - d.e := rfl
  unfold dDo
  rw [hd.1, hd.2.1, hd.2.2.1, hd.2.2.2, hte]
  by_cases hk : d.kd = 0
  · rw [if_pos hk, if_pos hk]
    by_cases ho : d.ok = true
    · rw [if_pos ho, if_pos ho]
      rcases he with he | he
      · rw [if_neg (by omega), if_pos he]
        simp
      · rw [if_pos (by omega), if_neg (by omega)]
        simp
    · rw [if_neg ho, if_neg ho]
      rfl
  · rw [if_neg hk, if_neg hk]
    by_cases ho : d.ok = true
    · rw [if_pos ho, if_pos ho]
      by_cases hr : row = []
      · subst hr
        rfl
      · have hr2 : row.reverse ≠ [] := fun h => hr (List.reverse_eq_nil_iff.1 h)
        obtain ⟨g1, g2⟩ := getD_rev hr
        rw [if_neg hr2, if_neg hr, g1, g2]
        rcases he with he | he
        · rw [if_neg (show ¬ 1 - d.e = 0 by omega), if_pos he]
          split
          · show some _ = some _
            rw [List.length_reverse, List.reverse_drop]
          · rfl
        · rw [if_pos (show 1 - d.e = 0 by omega), if_neg (show ¬ d.e = 0 by omega)]
          split
          · show some _ = some _
            rw [List.reverse_take, show row.length - (row.length - 1) = 1 by have := List.length_pos_iff.2 hr; omega]
          · rfl
    · rw [if_neg ho, if_neg ho]
      by_cases hr : row = []
      · subst hr
        rfl
      · rw [if_neg (fun h => hr (List.reverse_eq_nil_iff.1 h)), if_neg hr]
        rfl
theorem dRun_turn : ∀ (l : List Dd) (row : List Int), (∀ d ∈ l, d.e = 0 ∨ d.e = 1) → dRun row.reverse (l.map dTurn) = (dRun row l).map List.reverse
  | [], row, _ => rfl
  | d :: l, row, h => by
    have h1 := dDo_turn row d (h d List.mem_cons_self)
    cases hd : dDo row d with
    | none =>
      rw [hd] at h1
      rw [List.map_cons, dRun_none hd, dRun_none h1]
      rfl
    | some r =>
      rw [hd] at h1
      rw [List.map_cons, dRun_cons hd, dRun_cons (show dDo row.reverse (dTurn d) = some r.reverse from h1)]
      exact dRun_turn l r (fun d hd => h d (List.mem_cons_of_mem _ hd))

/-- A call that isn't over as if it were answered by what is there. -/
def dAns (row : List Int) (d : Dd) : Dd :=
  if 0 ≤ d.till then d else { d with ok := true, v := if d.kd = 1 ∧ row ≠ [] then (if d.e = 1 then row.getD (row.length - 1) 0 else row.getD 0 0) else 0, lo := 0, hi := 0 }

/-- May i stand next, behind those of D? -/
def LFree (l : List Dd) (D : Nat → Prop) (i : Nat) (d : Dd) : Prop := ¬ D i ∧ ∀ (k : Nat) (o : Dd), l[k]? = some o → D k ∨ ¬ dBef o d
/-- An order of calls behind those of D, on a row. -/
inductive Lin (l : List Dd) : (Nat → Prop) → List Int → List Nat → Prop
  | nil {D : Nat → Prop} {row : List Int} (h : ∀ (i : Nat) (d : Dd), l[i]? = some d → 0 ≤ d.till → D i) : Lin l D row []
  | cons {D : Nat → Prop} {row r : List Int} {i : Nat} {d : Dd} {s : List Nat} (hd : l[i]? = some d) (hf : LFree l D i d) (hr : dDo row (dAns row d) = some r) (h : Lin l (fun j => D j ∨ j = i) r s) : Lin l D row (i :: s)
/-- The row behind an order's calls. -/
def oRun (l : List Dd) : List Int → List Nat → Option (List Int)
  | row, [] => some row
  | row, i :: s => match l[i]? with
    | some d => (dDo row (dAns row d)).bind (fun r => oRun l r s)
    | none => none
theorem oRun_cons {l : List Dd} {row r : List Int} {i : Nat} {d : Dd} {s : List Nat} (hd : l[i]? = some d) (hr : dDo row (dAns row d) = some r) : oRun l row (i :: s) = oRun l r s := by
  rw [oRun, hd]
  show (dDo row (dAns row d)).bind _ = _
  rw [hr]
  rfl
/-- What an order is, as a whole. -/
structure Holds (l : List Dd) (D : Nat → Prop) (row : List Int) (s : List Nat) : Prop where
  nodup : s.Nodup
  new : ∀ i ∈ s, ¬ D i
  all : ∀ (i : Nat) (d : Dd), l[i]? = some d → 0 ≤ d.till → D i ∨ i ∈ s
  ahead : ∀ (p i k : Nat) (d o : Dd), s[p]? = some i → l[i]? = some d → l[k]? = some o → dBef o d → D k ∨ ∃ q, q < p ∧ s[q]? = some k
  run : ∃ r, oRun l row s = some r
theorem Lin.holds {l : List Dd} {D : Nat → Prop} {row : List Int} {s : List Nat} (h : Lin l D row s) : Holds l D row s := by
  induction h with
  | nil h => exact ⟨List.nodup_nil, (fun i hi => by cases hi), fun i d hd ht => .inl (h i d hd ht), (fun p i k d o hp => by simp at hp), ⟨_, rfl⟩⟩
  | cons hd hf hr h ih =>
    rename_i D row r i d s
    refine ⟨List.nodup_cons.2 ⟨fun hm => ih.new i hm (.inr rfl), ih.nodup⟩, fun j hj => ?_, fun j e he ht => ?_, fun p j k e o hp he ho hb => ?_, ?_⟩
    · rcases List.mem_cons.1 hj with rfl | hj
      · exact hf.1
      · exact fun hD => ih.new j hj (.inl hD)
    · rcases ih.all j e he ht with (h1 | rfl) | h1
      · exact .inl h1
      · exact .inr List.mem_cons_self
      · exact .inr (List.mem_cons_of_mem _ h1)
    · cases p with
      | zero =>
        rw [List.getElem?_cons_zero] at hp
        cases hp
        rw [hd] at he
        cases he
        rcases hf.2 k o ho with h1 | h1
        · exact .inl h1
        · exact absurd hb h1
      | succ p =>
        rw [List.getElem?_cons_succ] at hp
        rcases ih.ahead p j k e o hp he ho hb with (h1 | rfl) | ⟨q, hq, h1⟩
        · exact .inl h1
        · exact .inr ⟨0, by omega, rfl⟩
        · exact .inr ⟨q + 1, by omega, by rw [List.getElem?_cons_succ]; exact h1⟩
    · rw [oRun_cons hd hr]
      exact ih.run
theorem Holds.lin {l : List Dd} : ∀ {s : List Nat} {D : Nat → Prop} {row : List Int}, Holds l D row s → Lin l D row s
  | [], D, row, h => .nil (fun i d hd ht => (h.all i d hd ht).resolve_right (by simp))
  | i :: s, D, row, h => by
    obtain ⟨r2, hr2⟩ := h.run
    obtain ⟨n1, n2⟩ := List.nodup_cons.1 h.nodup
    cases hd : l[i]? with
    | none =>
      rw [oRun, hd] at hr2
      cases hr2
    | some d =>
      cases hr : dDo row (dAns row d) with
      | none =>
        rw [oRun, hd] at hr2
        have hr3 : (dDo row (dAns row d)).bind (fun r => oRun l r s) = some r2 := hr2
        rw [hr] at hr3
        cases hr3
      | some r =>
        rw [oRun_cons hd hr] at hr2
        refine .cons hd ⟨h.new i List.mem_cons_self, fun k o ho => ?_⟩ hr (Holds.lin ⟨n2, fun j hj hD => ?_, fun j e he ht => ?_, fun p j k e o hp he ho hb => ?_, r2, hr2⟩)
        · by_cases hb : dBef o d
          · rcases h.ahead 0 i k d o rfl hd ho hb with h1 | ⟨q, hq, _⟩
            · exact .inl h1
            · omega
          · exact .inr hb
        · rcases hD with hD | rfl
          · exact h.new j (List.mem_cons_of_mem _ hj) hD
          · exact n1 hj
        · rcases h.all j e he ht with h1 | h1
          · exact .inl (.inl h1)
          · rcases List.mem_cons.1 h1 with rfl | h1
            · exact .inl (.inr rfl)
            · exact .inr h1
        · rcases h.ahead (p + 1) j k e o (by rw [List.getElem?_cons_succ]; exact hp) he ho hb with h1 | ⟨q, hq, h1⟩
          · exact .inl (.inl h1)
          · cases q with
            | zero =>
              rw [List.getElem?_cons_zero] at h1
              cases h1
              exact .inl (.inr rfl)
            | succ q =>
              rw [List.getElem?_cons_succ] at h1
              exact .inr ⟨q, by omega, h1⟩
theorem Lin.same {l : List Dd} {D D' : Nat → Prop} {row : List Int} {s : List Nat} (h : Lin l D row s) (e : ∀ j, D j ↔ D' j) : Lin l D' row s := by
  induction h generalizing D' with
  | nil h => exact .nil (fun i d hd ht => (e i).1 (h i d hd ht))
  | cons hd hf hr h ih => exact .cons hd ⟨fun hh => hf.1 ((e _).2 hh), fun k o ho => (hf.2 k o ho).imp (e k).1 id⟩ hr (ih (fun j => or_congr (e j) Iff.rfl))
/-- One more can be tried: an order is none, or begins with one that may stand next. -/
theorem lin_iff {l : List Dd} {D : Nat → Prop} {row : List Int} : (∃ s, Lin l D row s) ↔ ((∀ (i : Nat) (d : Dd), l[i]? = some d → 0 ≤ d.till → D i) ∨ ∃ (i : Nat) (d : Dd) (r : List Int), l[i]? = some d ∧ LFree l D i d ∧ dDo row (dAns row d) = some r ∧ ∃ s, Lin l (fun j => D j ∨ j = i) r s) := by
  constructor
  · rintro ⟨s, h⟩
    cases h with
    | nil h => exact .inl h
    | cons hd hf hr h => exact .inr ⟨_, _, _, hd, hf, hr, _, h⟩
  · rintro (h | ⟨i, d, r, hd, hf, hr, s, h⟩)
    · exact ⟨[], .nil h⟩
    · exact ⟨i :: s, .cons hd hf hr h⟩
end Go.Proofs.Ytgoncakjkippkab
