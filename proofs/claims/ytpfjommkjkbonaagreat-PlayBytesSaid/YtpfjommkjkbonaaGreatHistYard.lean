/-
  What any yard's deeds are like: each thread has one under way at most; no number is two calls' end or beginning. No Go. No condition.
-/
import Derived.Test.YtpfjommkjkbonaaGreatYardRows
import Derived.Test.YtpfjommkjkbonaaGreatHistPure
namespace Go.Proofs.YtpfjommkjkbonaaGreat
open Go.RowKit
set_option linter.unusedVariables false

section
variable {pl : Nat → Pl} {t n : Nat} {Y Y' : Yd}
/-- Of each thread one call at most is under way. -/
theorem YOk.under (h : YOk pl t n Y) {d : Dd} : dUnder Y.ds d ≤ t := by
  refine count_kinds (fun o : Dd => o.who) t (dAt d) Y.ds (fun o ho _ => ?_) (fun w hw => ?_)
  · obtain ⟨i, hi⟩ := List.mem_iff_getElem?.1 ho
    obtain ⟨⟨k, k1, k2, _⟩, _⟩ := h.deed i o hi
    show 0 ≤ o.who ∧ o.who < t
    omega
  · refine count_le_one (fun i j a b hij ha hb qa qb => ?_)
    simp only [dAt, Bool.and_eq_true, decide_eq_true_eq] at qa qb
    obtain ⟨o1, o2⟩ := h.order i j a b hij ha hb
    obtain ⟨o3, o4⟩ := o2 (by omega)
    have := (h.deed i a ha).2.2.2 o3
    have := (h.deed i a ha).2.1
    omega
theorem YOk.most' (h : YOk pl t n Y) : ∀ e, dMost Y.ds e ≤ t
  | 0 => Nat.zero_le _
  | e + 1 => by
    have ih := h.most' e
    rw [dMost]
    cases hd : Y.ds[e]? with
    | none => exact Nat.max_le.2 ⟨ih, Nat.zero_le _⟩
    | some d =>
      have := h.under (d := d)
      exact Nat.max_le.2 ⟨ih, this⟩

/-- No number is two calls' end, or beginning; calls are right. -/
structure YNum (Y : Yd) : Prop where
  from' : ∀ (i j : Nat) (d d' : Dd), Y.ds[i]? = some d → Y.ds[j]? = some d' → d.fr ≠ d'.till
  till : ∀ (i j : Nat) (d d' : Dd), i ≠ j → Y.ds[i]? = some d → Y.ds[j]? = some d' → 0 ≤ d.till → d.till ≠ d'.till
  kind : ∀ (i : Nat) (d : Dd), Y.ds[i]? = some d → (d.kd = 0 ∨ d.kd = 1) ∧ (d.e = 0 ∨ d.e = 1)
theorem YNum.start (C : List Int) (t : Nat) : YNum ⟨C, [], 0, 0, List.replicate t none, []⟩ := ⟨fun i j d d' h => by simp at h, fun i j d d' _ h => by simp at h, fun i d h => by simp at h⟩
theorem YNum.over (h : YNum Y) (ho : YOk pl t n Y) {w i : Nat} {T : Wk} {P : Pl} {z : Int} (hw : Y.ts[w]? = some (some (T, i))) : YNum (Y.step P w T i z) := by
  unfold Yd.step
  by_cases hp : (T.step P Y.C Y.now z).ph = 0
  · rw [if_pos hp, if_pos hp]
    exact ⟨h.from', h.till, h.kind⟩
  · rw [if_neg hp, if_neg hp]
    have key : ∀ {j : Nat} {d : Dd}, (Y.ds.modify i (fun d => d.over Y.moves (T.step P Y.C Y.now z)))[j]? = some d → ∃ d0, Y.ds[j]? = some d0 ∧ d.fr = d0.fr ∧ d.kd = d0.kd ∧ d.e = d0.e ∧ ((j = i ∧ d.till = Y.moves) ∨ (j ≠ i ∧ d.till = d0.till)) := fun {j d} hj => by
      rcases ymod hj with ⟨rfl, d0, h0, rfl⟩ | ⟨hne, h0⟩
      · obtain ⟨_, s2, s3, _, _, s6, s7⟩ := Dd.over_same d0 Y.moves (T.step P Y.C Y.now z)
        exact ⟨d0, h0, s6, s2, s3, .inl ⟨rfl, s7⟩⟩
      · exact ⟨d, h0, rfl, rfl, rfl, .inr ⟨fun e => hne e.symm, rfl⟩⟩
    have bnd : ∀ {j : Nat} {d : Dd}, Y.ds[j]? = some d → 0 ≤ d.fr ∧ d.fr < Y.moves ∧ d.till < Y.moves := fun {j d} hj => by
      obtain ⟨_, b1, b2, b3⟩ := ho.deed j d hj
      refine ⟨b1, b2, ?_⟩
      by_cases e : d.till = -1
      · omega
      · exact (b3 e).2
    refine ⟨fun a b d d' ha hb => ?_, fun a b d d' hab ha hb h0 => ?_, fun a d ha => ?_⟩
    · obtain ⟨e, e1, e2, _, _, _⟩ := key ha
      obtain ⟨f, f1, _, _, _, f5⟩ := key hb
      have := bnd e1
      rcases f5 with ⟨_, f5⟩ | ⟨_, f5⟩
      · omega
      · rw [e2, f5]
        exact h.from' a b e f e1 f1
    · obtain ⟨e, e1, _, _, _, e5⟩ := key ha
      obtain ⟨f, f1, _, _, _, f5⟩ := key hb
      have := bnd e1
      have := bnd f1
      rcases e5 with ⟨e6, e5⟩ | ⟨_, e5⟩ <;> rcases f5 with ⟨f6, f5⟩ | ⟨_, f5⟩
      · omega
      · omega
      · omega
      · rw [e5, f5]
        exact h.till a b e f hab e1 f1 (by omega)
    · obtain ⟨e, e1, _, e3, e4, _⟩ := key ha
      rw [e3, e4]
      exact h.kind a e e1
theorem YNum.next (h : YNum Y) (ho : YOk pl t n Y) (hm : YMv pl Y Y') : YNum Y' := by
  cases hm with
  | rest => exact h
  | pass k hk => exact ⟨h.from', h.till, h.kind⟩
  | step w T i z hw ha => exact h.over ho hw
  | call w kd e x s T hw hk h0 hb hp hr =>
    have bnd : ∀ {j : Nat} {d : Dd}, Y.ds[j]? = some d → 0 ≤ d.fr ∧ d.fr < Y.moves ∧ d.till < Y.moves := fun {j d} hj => by
      obtain ⟨_, b1, b2, b3⟩ := ho.deed j d hj
      refine ⟨b1, b2, ?_⟩
      by_cases e : d.till = -1
      · omega
      · exact (b3 e).2
    refine ⟨fun a b d d' ha hb => ?_, fun a b d d' hab ha hb h0 => ?_, fun a d ha => ?_⟩
    · rcases ysnoc ha with ⟨_, rfl⟩ | ⟨_, ha⟩ <;> rcases ysnoc hb with ⟨_, rfl⟩ | ⟨_, hb⟩
      · show (Y.moves : Int) ≠ -1
        omega
      · have := bnd hb
        show (Y.moves : Int) ≠ d'.till
        omega
      · have := bnd ha
        show d.fr ≠ (-1 : Int)
        omega
      · exact h.from' a b d d' ha hb
    · rcases ysnoc ha with ⟨_, rfl⟩ | ⟨_, ha⟩
      · exact absurd h0 (by show ¬ (0 : Int) ≤ -1; decide)
      · rcases ysnoc hb with ⟨_, rfl⟩ | ⟨_, hb⟩
        · show d.till ≠ (-1 : Int)
          omega
        · exact h.till a b d d' hab ha hb h0
    · rcases ysnoc ha with ⟨_, rfl⟩ | ⟨_, ha⟩
      · exact hr
      · exact h.kind a d ha
end

end Go.Proofs.YtpfjommkjkbonaaGreat
