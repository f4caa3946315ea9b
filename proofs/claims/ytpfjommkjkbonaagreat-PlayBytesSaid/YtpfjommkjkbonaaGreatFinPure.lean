/-
  Calls that come to their ends, thread by thread in turn: how much is left at most; what comes of it is just this. No Go. No condition.
-/
import Derived.Test.YtpfjommkjkbonaaGreatPlayPure
import Derived.Test.YtpfjommkjkbonaaGreatBoundYard
namespace Go.Proofs.YtpfjommkjkbonaaGreat
open Go.RowKit
set_option linter.unusedVariables false

def busyN (Y : Yd) : Nat := Y.ts.countP Option.isSome
/-- At most so many steps are left, while no call begins. -/
def FinM (pl : Nat → Pl) (t put b : Nat) (Y : Yd) (μ : Nat) : Prop := ∃ s tu, Stretch pl t put Y s tu ∧ busyN Y * (t * b + 1) + (t * b - tot s t) ≤ μ
section
variable {pl : Nat → Pl} {t n N put b μ : Nat} {Y : Yd}
theorem FinM.of (h : Books pl put Y (fun _ => 0) (fun _ => 0)) : FinM pl t put b Y (busyN Y * (t * b + 1) + t * b) := by
  refine ⟨fun _ => 0, fun _ => 0, ⟨fun k T i hk => ?_, fun _ => Nat.zero_le _, fun k T i _ hu => absurd hu (by decide), fun _ _ => ⟨rfl, rfl⟩⟩, ?_⟩
  · have h1 := h k T i hk
    have e : tot (fun _ => 0) t - 0 = 0 := by rw [tot_zero (fun _ => rfl)]
    show OLeft (pl k) T Y.C put 0 (tot (fun _ => 0) t - 0)
    rw [e]
    exact h1
  · rw [tot_zero (fun _ => rfl)]
    omega
theorem busy_le (ho : YOk pl t n Y) : busyN Y ≤ t := by
  have := List.countP_le_length (p := Option.isSome) (l := Y.ts)
  rw [ho.len] at this
  exact this
theorem busy_same {w : Nat} {a a' : Wk × Nat} (hw : Y.ts[w]? = some (some a)) : (Y.ts.set w (some a')).countP Option.isSome = busyN Y := by
  obtain ⟨hl, he⟩ := List.getElem?_eq_some_iff.1 hw
  have hpos : 0 < Y.ts.countP Option.isSome := List.countP_pos_iff.2 ⟨_, List.getElem_mem hl, by rw [he]; rfl⟩
  rw [List.countP_set hl, he]
  show Y.ts.countP Option.isSome - 1 + 1 = Y.ts.countP Option.isSome
  omega
theorem busy_end {w : Nat} {a : Wk × Nat} (hw : Y.ts[w]? = some (some a)) : (Y.ts.set w none).countP Option.isSome + 1 = busyN Y := by
  obtain ⟨hl, he⟩ := List.getElem?_eq_some_iff.1 hw
  have hpos : 0 < Y.ts.countP Option.isSome := List.countP_pos_iff.2 ⟨_, List.getElem_mem hl, by rw [he]; rfl⟩
  rw [List.countP_set hl, he]
  show Y.ts.countP Option.isSome - 1 + 0 + 1 = Y.ts.countP Option.isSome
  omega
/-- A step leaves less. -/
theorem FinM.step (h : FinM pl t put b Y μ) (ho : YOk pl t n Y) (hN : ∀ k, (pl k).N = N) (ht : 1 ≤ t) (h1 : put ≤ b) (h2 : t * (4 * N + 10) ≤ b) {w : Nat} {T : Wk} {i : Nat} {z : Int} (hw : Y.ts[w]? = some (some (T, i))) (ha : T.ask Y.C z) (hf : ∀ j, 0 ≤ Y.C.getD j 0)
    {n' : Nat} (ho' : YOk pl t n' (Y.step (pl w) w T i z)) : ∃ μ', μ' < μ ∧ FinM pl t put b (Y.step (pl w) w T i z) μ' := by
  obtain ⟨s, tu, hS, hμ⟩ := h
  have hs := hS.short ho hN ht h1 h2
  by_cases hp : (T.step (pl w) Y.C Y.now z).ph = 0
  · obtain ⟨tu', hS', htot⟩ := hS.step ho hN hw ha hf hp
    have hs' := hS'.short ho' hN ht h1 h2
    refine ⟨busyN Y * (t * b + 1) + (t * b - tot s t) - 1, by omega, _, tu', hS', ?_⟩
    have e : busyN (Y.step (pl w) w T i z) = busyN Y := by
      show (if (T.step (pl w) Y.C Y.now z).ph = 0 then Y.ts.set w (some (T.step (pl w) Y.C Y.now z, i)) else Y.ts.set w none).countP Option.isSome = _
      rw [if_pos hp]
      exact busy_same hw
    rw [e, htot]
    rw [htot] at hs'
    omega
  · have e : busyN (Y.step (pl w) w T i z) + 1 = busyN Y := by
      show (if (T.step (pl w) Y.C Y.now z).ph = 0 then Y.ts.set w (some (T.step (pl w) Y.C Y.now z, i)) else Y.ts.set w none).countP Option.isSome + 1 = _
      rw [if_neg hp]
      exact busy_end hw
    refine ⟨busyN Y * (t * b + 1) + (t * b - tot s t) - 1, ?_, _, _, hS.ended ho hN hw ha hf, ?_⟩
    · rw [← e, Nat.add_mul, Nat.one_mul] at hμ ⊢
      omega
    · rw [← e, Nat.add_mul, Nat.one_mul, tot_zero (fun _ => rfl)]
      omega
end

/-- What is behind j looks, s of which were steps. -/
inductive Tick (B : YB) (N : Nat) (Y0 : Yd) : Nat → Yd → Nat → Prop
  | zero : Tick B N Y0 0 Y0 0
  | skip {j : Nat} {Y : Yd} {s : Nat} (h : Tick B N Y0 j Y s) (hn : Y.ts[j % B.T]? = some none) : Tick B N Y0 (j + 1) Y s
  | step {j : Nat} {Y : Yd} {s : Nat} (h : Tick B N Y0 j Y s) (T : Wk) (i : Nat) (z : Int) (hk : Y.ts[j % B.T]? = some (some (T, i))) (ha : T.ask Y.C z) : Tick B N Y0 (j + 1) (Y.step (plOf B N (j % B.T)) (j % B.T) T i z) (s + 1)
section
variable {B B' : YB} {N : Nat} {Y0 Y Y' : Yd} {j s s' : Nat}
theorem Tick.like (h : Tick B N Y0 j Y s) (hB : B.like B') : Tick B' N Y0 j Y s := by
  obtain ⟨yb, tb, p, c, t, st, so, d, T⟩ := B
  obtain ⟨yb', tb', p', c', t', st', so', d', T'⟩ := B'
  obtain ⟨h1, h2, h3, h4, h5⟩ := hB
  simp only at h1 h2 h3 h4 h5
  subst h1 h2 h3 h4 h5
  induction h with
  | zero => exact .zero
  | skip h hn ih => exact .skip ih hn
  | step h T i z hk ha ih => exact .step ih T i z hk ha
/-- Steps are moves. -/
theorem Tick.moves (h : Tick B N Y0 j Y s) : Y.moves = Y0.moves + s := by
  induction h with
  | zero => rfl
  | skip h hn ih => exact ih
  | step h T i z hk ha ih =>
    show _ + 1 = _
    rw [ih]
    omega
end
end Go.Proofs.YtpfjommkjkbonaaGreat
