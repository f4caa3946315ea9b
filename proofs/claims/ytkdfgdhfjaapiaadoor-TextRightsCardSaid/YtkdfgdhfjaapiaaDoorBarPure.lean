/-
  Texts with a sign between: these are signs alone if each text is. No Go. No condition.
-/
import Derived.Test.YtkdfgdhfjaapiaaDoorSignText
namespace Go.Proofs.YtkdfgdhfjaapiaaDoor
set_option linter.unusedVariables false

def barL (xs : List Bs) : Bs := (xs.map (· ++ [124])).flatten
def barR (xs : List Bs) : Bool := xs.all fun x => (sg x).isSome
def barN (xs : List Bs) : Nat := (xs.map lenS).sum
theorem barL_snoc (xs : List Bs) (x : Bs) : barL (xs ++ [x]) = barL xs ++ x ++ [124] := by unfold barL; simp
theorem barR_snoc (xs : List Bs) (x : Bs) : barR (xs ++ [x]) = (barR xs && (sg x).isSome) := by unfold barR; simp
theorem barN_snoc (xs : List Bs) (x : Bs) : barN (xs ++ [x]) = barN xs + lenS x := by unfold barN; simp
theorem barL_len : ∀ (xs : List Bs) (b : Nat), (∀ x ∈ xs, x.length ≤ b) → (barL xs).length ≤ xs.length * (b + 1)
  | [], b, _ => by simp [barL]
  | x :: xs, b, h => by
    have ih := barL_len xs b (fun y hy => h y (by simp [hy]))
    have h1 := h x (by simp)
    have e : barL (x :: xs) = x ++ [124] ++ barL xs := rfl
    rw [e, List.length_append, List.length_append, List.length_singleton, List.length_cons, Nat.add_mul]
    omega
theorem barN_len : ∀ (xs : List Bs) (b : Nat), (∀ x ∈ xs, x.length ≤ b) → barN xs ≤ xs.length * b
  | [], b, _ => by simp [barN]
  | x :: xs, b, h => by
    have ih := barN_len xs b (fun y hy => h y (by simp [hy]))
    have h1 := h x (by simp)
    have h2 := lenS_le x
    have e : barN (x :: xs) = lenS x + barN xs := by unfold barN; simp
    rw [e, List.length_cons, Nat.add_mul]
    omega
theorem bar_sg : ∀ xs : List Bs, (barR xs = false → sg (barL xs) = none) ∧ (barR xs = true → ∃ L, sg (barL xs) = some L ∧ L.length = barN xs + xs.length)
  | [] => ⟨fun h => by simp [barR] at h, fun _ => ⟨[], rfl, rfl⟩⟩
  | x :: xs => by
    obtain ⟨h1, h2⟩ := bar_sg xs
    have e : barL (x :: xs) = x ++ 124 :: barL xs := by
      show x ++ [124] ++ barL xs = _
      rw [List.append_assoc]; rfl
    have eR : barR (x :: xs) = ((sg x).isSome && barR xs) := by unfold barR; simp
    have eN : barN (x :: xs) = lenS x + barN xs := by unfold barN; simp
    rw [e, eR, eN, sg_bar (by decide)]
    cases hx : sg x with
    | none => exact ⟨fun _ => rfl, fun h => by simp at h⟩
    | some A =>
      have hA : lenS x = A.length := by unfold lenS; rw [hx]; rfl
      refine ⟨fun h => ?_, fun h => ?_⟩
      · rw [Option.isSome_some, Bool.true_and] at h
        rw [h1 h]; rfl
      · rw [Option.isSome_some, Bool.true_and] at h
        obtain ⟨L, hL, hl⟩ := h2 h
        rw [hL]
        refine ⟨A ++ [124] :: L, rfl, ?_⟩
        rw [List.length_append, List.length_cons, List.length_cons, hl, hA]
        omega
end Go.Proofs.YtkdfgdhfjaapiaaDoor
