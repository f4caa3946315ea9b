/-
  How often each value was put in, less how often it was had: plain lemmas. No Go. No condition.
-/
import Derived.Test.YtkadjpllappalaaHistPure
namespace Go.Proofs.Ytkadjpllappalaa
open Go.RowKit
set_option linter.unusedVariables false

/-- The value that a call is about. -/
def tKey (d : Dd) : Int := if d.kd = 0 then d.x else d.v
def tSign (d : Dd) : Int := if d.kd = 0 then 1 else -1
def tAdd (d : Dd) (v : Int) : Int := if d.ok = true ∧ v = tKey d then tSign d else 0
def tally (l : List Dd) (v : Int) : Int := (l.map (fun d => tAdd d v)).sum
def tHas (l : List Dd) (v : Int) : Bool := l.any (fun d => d.ok && decide (v = tKey d))
theorem tally_snoc {l : List Dd} {i : Nat} {d : Dd} (h : l[i]? = some d) (v : Int) : tally (l.take (i + 1)) v = tally (l.take i) v + tAdd d v := by
  unfold tally
  rw [List.take_add_one, h, List.map_append, List.sum_append]
  simp
theorem tHas_snoc {l : List Dd} {i : Nat} {d : Dd} (h : l[i]? = some d) (v : Int) : tHas (l.take (i + 1)) v = (tHas (l.take i) v || (d.ok && decide (v = tKey d))) := by
  unfold tHas
  rw [List.take_add_one, h, List.any_append]
  simp
theorem tally_bound (v : Int) : ∀ l : List Dd, -(l.length : Int) ≤ tally l v ∧ tally l v ≤ l.length
  | [] => by simp [tally]
  | d :: l => by
    have h := tally_bound v l
    have e : tally (d :: l) v = tAdd d v + tally l v := by simp [tally]
    have k : -1 ≤ tAdd d v ∧ tAdd d v ≤ 1 := by
      unfold tAdd tSign
      repeat' split
      all_goals omega
    rw [e, List.length_cons]
    omega
theorem tally_none {l : List Dd} {v : Int} (h : tHas l v = false) : tally l v = 0 := by
  induction l with
  | nil => rfl
  | cons d l ih =>
    have e : tally (d :: l) v = tAdd d v + tally l v := by simp [tally]
    unfold tHas at h ih
    rw [List.any_cons, Bool.or_eq_false_iff] at h
    rw [e, ih h.2]
    unfold tAdd
    rw [if_neg]
    · rfl
    · rintro ⟨h1, h2⟩
      rw [h1, decide_eq_true h2] at h
      cases h.1
theorem tally_known {l : List Dd} {v : Int} (h : tally l v ≠ 0) : ∃ d ∈ l, tKey d = v := by
  cases hh : tHas l v with
  | false => exact absurd (tally_none hh) h
  | true =>
    obtain ⟨d, hd, hx⟩ := List.any_eq_true.1 hh
    rw [Bool.and_eq_true, decide_eq_true_eq] at hx
    exact ⟨d, hd, hx.2.symm⟩
end Go.Proofs.Ytkadjpllappalaa
