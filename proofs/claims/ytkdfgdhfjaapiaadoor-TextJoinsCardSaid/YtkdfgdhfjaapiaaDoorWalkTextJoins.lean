/-
  TextJoins: two texts put in at one place stand side by side: the walk. No condition.
-/
import Derived.Test.YtkdfgdhfjaapiaaDoorTextHead
namespace Go.Proofs.YtkdfgdhfjaapiaaDoor
open Go.RowKit
set_option linter.unusedVariables false

set_option maxHeartbeats 4000000 in
theorem walk_TextJoins (a0 : ByteArray) (a1 : ByteArray) (a2 : ByteArray) (a3 : Int) (w : World) (w0 : a0.size ≤ maxLen) (w1 : a1.size ≤ maxLen) (w2 : a2.size ≤ maxLen) (w3 : (Lit.int .i64 a3).wf = true) (hT : Tabs w) :
    Calls Tryd.prog 8 #[.string a0, .string a1, .string a2, .int .i64 a3] w fun e w' => e = .returned (.bool true) ∧ Below w.heap.size w w' := by
  have cH := fun (W : World) (hb : Below w.heap.size w W) => head20_any W (hT.later hb)
  have hb := Below.refl w.heap.size w
  by_cases h0 : 100 < a0.size
  · have h0' : (100 : Int) < (a0.size : Int) := by omega
    go_enter Tryd.func8, Tryd.ntmps8
    go_wp2_with (first
      | (go_at_call 10; with_reducible refine (cH _ hb).mono ?_; rintro e w' ⟨rfl, hb'⟩; replace hb := below_step hb hb'; clear hb'))
    go_ret
    exact ⟨rfl, hb⟩
  have h0' : ¬ ((100 : Int) < (a0.size : Int)) := by omega
  by_cases h1 : 100 < a1.size
  · have h1' : (100 : Int) < (a1.size : Int) := by omega
    go_enter Tryd.func8, Tryd.ntmps8
    go_wp2_with (first
      | (go_at_call 10; with_reducible refine (cH _ hb).mono ?_; rintro e w' ⟨rfl, hb'⟩; replace hb := below_step hb hb'; clear hb'))
    go_ret
    exact ⟨rfl, hb⟩
  have h1' : ¬ ((100 : Int) < (a1.size : Int)) := by omega
  by_cases h2 : 100 < a2.size
  · have h2' : (100 : Int) < (a2.size : Int) := by omega
    go_enter Tryd.func8, Tryd.ntmps8
    go_wp2_with (first
      | (go_at_call 10; with_reducible refine (cH _ hb).mono ?_; rintro e w' ⟨rfl, hb'⟩; replace hb := below_step hb hb'; clear hb'))
    go_ret
    exact ⟨rfl, hb⟩
  have h2' : ¬ ((100 : Int) < (a2.size : Int)) := by omega
  have cR0 := fun (W : World) (hb : Below w.heap.size w W) => right_any a0 W (by omega) (hT.later hb)
  have cR1 := fun (W : World) (hb : Below w.heap.size w W) => right_any a1 W (by omega) (hT.later hb)
  have cR2 := fun (W : World) (hb : Below w.heap.size w W) => right_any a2 W (by omega) (hT.later hb)
  clear w0 w1 w2 w3
  cases hA : sg a0.data.toList with
  | none =>
    simp only [hA, Option.isSome_none] at cR0
    go_enter Tryd.func8, Tryd.ntmps8
    go_wp2_with (first
      | (go_at_call 10; with_reducible refine (cH _ hb).mono ?_; rintro e w' ⟨rfl, hb'⟩; replace hb := below_step hb hb'; clear hb')
      | (go_at_call 13; with_reducible refine (cR0 _ hb).mono ?_; rintro e w' ⟨rfl, hb'⟩; replace hb := below_step hb hb'; clear hb'))
    go_ret
    exact ⟨rfl, hb⟩
  | some A =>
    simp only [hA, Option.isSome_some] at cR0
    cases hB : sg a1.data.toList with
    | none =>
      simp only [hB, Option.isSome_none] at cR1
      go_enter Tryd.func8, Tryd.ntmps8
      go_wp2_with (first
        | (go_at_call 10; with_reducible refine (cH _ hb).mono ?_; rintro e w' ⟨rfl, hb'⟩; replace hb := below_step hb hb'; clear hb')
        | (go_at_call 13; with_reducible refine (cR0 _ hb).mono ?_; rintro e w' ⟨rfl, hb'⟩; replace hb := below_step hb hb'; clear hb')
        | (go_at_call 13; with_reducible refine (cR1 _ hb).mono ?_; rintro e w' ⟨rfl, hb'⟩; replace hb := below_step hb hb'; clear hb'))
      go_ret
      exact ⟨rfl, hb⟩
    | some B =>
      simp only [hB, Option.isSome_some] at cR1
      cases hC : sg a2.data.toList with
      | none =>
        simp only [hC, Option.isSome_none] at cR2
        go_enter Tryd.func8, Tryd.ntmps8
        go_wp2_with (first
          | (go_at_call 10; with_reducible refine (cH _ hb).mono ?_; rintro e w' ⟨rfl, hb'⟩; replace hb := below_step hb hb'; clear hb')
          | (go_at_call 13; with_reducible refine (cR0 _ hb).mono ?_; rintro e w' ⟨rfl, hb'⟩; replace hb := below_step hb hb'; clear hb')
          | (go_at_call 13; with_reducible refine (cR1 _ hb).mono ?_; rintro e w' ⟨rfl, hb'⟩; replace hb := below_step hb hb'; clear hb')
          | (go_at_call 13; with_reducible refine (cR2 _ hb).mono ?_; rintro e w' ⟨rfl, hb'⟩; replace hb := below_step hb hb'; clear hb'))
        go_ret
        exact ⟨rfl, hb⟩
      | some C =>
        simp only [hC, Option.isSome_some] at cR2
        obtain ⟨aS, aF⟩ := (sg_iff _ _).1 hA
        obtain ⟨bS, bF⟩ := (sg_iff _ _).1 hB
        obtain ⟨cS', cF⟩ := (sg_iff _ _).1 hC
        have hAn : A.length ≤ 100 := by have := aS.le; rw [aF, size_list] at this; omega
        have hBn : B.length ≤ 100 := by have := bS.le; rw [bF, size_list] at this; omega
        have hCn : C.length ≤ 100 := by have := cS'.le; rw [cF, size_list] at this; omega
        have cS := fun (W : World) (hb : Below w.heap.size w W) => signs_some aS a0 aF.symm (by omega) W (hT.later hb)
        have cL := fun (W : World) (hb : Below w.heap.size w W) => len_any bS a1 bF.symm (by omega) W
        obtain ⟨k, hk, hkA⟩ : ∃ k : Nat, wrap64 ((IntKind.u64.wrap a3).tmod ((A.length : Int) + 1)) = k ∧ k ≤ A.length := by
          obtain ⟨u, hu⟩ : ∃ u, IntKind.u64.wrap a3 = u := ⟨_, rfl⟩
          have hu0 : 0 ≤ u := by rw [← hu, IntKind.wrap_u64]; omega
          rw [hu, Int.tmod_eq_emod_of_nonneg hu0]
          have h1 := Int.emod_nonneg u (show ((A.length : Int) + 1) ≠ 0 by omega)
          have h2 := Int.emod_lt_of_pos u (show (0 : Int) < ((A.length : Int) + 1) by omega)
          exact ⟨(u % ((A.length : Int) + 1)).toNat, by unfold wrap64; omega, by omega⟩
        have two := ins_two aS bS cS' hkA (by omega)
        have e1 := insS_ok aS bS hkA (by omega)
        have e3 := insS_ok aS (cS'.app bS) hkA (by rw [List.length_append]; omega)
        have e4 := insS_ok aS (bS.app cS') hkA (by rw [List.length_append]; omega)
        rw [← List.flatten_append, ← List.flatten_append] at two
        rw [e1, e3, e4] at two
        obtain ⟨X, hX⟩ : ∃ X, (A.take k ++ (B ++ A.drop k)).flatten = X := ⟨_, rfl⟩
        obtain ⟨Y, hY⟩ : ∃ Y, (A.take k ++ ((C ++ B) ++ A.drop k)).flatten = Y := ⟨_, rfl⟩
        obtain ⟨Z, hZ⟩ : ∃ Z, (A.take k ++ ((B ++ C) ++ A.drop k)).flatten = Z := ⟨_, rfl⟩
        rw [hX] at e1
        rw [hX, hY, hZ] at two
        rw [hY] at e3
        rw [hZ] at e4
        have hXl : X.length ≤ 400 := by
          rw [← hX]
          have i1 := size_list a0
          have i2 := size_list a1
          rw [← aF] at i1
          rw [← bF] at i2
          have i3 : A.flatten = (A.take k).flatten ++ (A.drop k).flatten := by rw [← List.flatten_append, List.take_append_drop]
          rw [i3, List.length_append] at i1
          simp only [List.flatten_append, List.length_append]
          omega
        have cI1 : ∀ W, Below w.heap.size w W → Calls Tryd.prog 11 #[.string a0, .int .i64 k, .string a1] W fun e w' => e = .returned (.tuple #[str X, .int .i64 0]) ∧ Below W.heap.size W w' := fun W hb => by
          have h := insert_any a0 a1 k W (by omega) (by omega) (hT.later hb)
          rw [← aF, ← bF, e1] at h
          exact h
        have cI2 : ∀ W, Below w.heap.size w W → Calls Tryd.prog 11 #[str X, .int .i64 k, .string a2] W fun e w' => e = .returned (.tuple #[str Y, .int .i64 0]) ∧ Below W.heap.size W w' := fun W hb => by
          have h := insert_any ⟨X.toArray⟩ a2 k W (by rw [size_mk]; omega) (by omega) (hT.later hb)
          rw [show (⟨X.toArray⟩ : ByteArray).data.toList = X from by simp, ← cF, two.1] at h
          exact h
        have cI3 : ∀ W, Below w.heap.size w W → Calls Tryd.prog 11 #[str X, .int .i64 ((k : Int) + (B.length : Int)), .string a2] W fun e w' => e = .returned (.tuple #[str Z, .int .i64 0]) ∧ Below W.heap.size W w' := fun W hb => by
          have h := insert_any ⟨X.toArray⟩ a2 ((k + B.length : Nat) : Int) W (by rw [size_mk]; omega) (by omega) (hT.later hb)
          rw [show (⟨X.toArray⟩ : ByteArray).data.toList = X from by simp, ← cF, two.2, show ((k + B.length : Nat) : Int) = (k : Int) + (B.length : Int) by omega] at h
          exact h
        have cI4 : ∀ W, Below w.heap.size w W → Calls Tryd.prog 11 #[.string a0, .int .i64 k, .string (a2 ++ a1)] W fun e w' => e = .returned (.tuple #[str Y, .int .i64 0]) ∧ Below W.heap.size W w' := fun W hb => by
          have h := insert_any a0 (a2 ++ a1) k W (by omega) (by rw [← size_list, app_list, List.length_append, size_list, size_list]; omega) (hT.later hb)
          rw [app_list, ← aF, ← bF, ← cF, ← List.flatten_append, e3] at h
          exact h
        have cI5 : ∀ W, Below w.heap.size w W → Calls Tryd.prog 11 #[.string a0, .int .i64 k, .string (a1 ++ a2)] W fun e w' => e = .returned (.tuple #[str Z, .int .i64 0]) ∧ Below W.heap.size W w' := fun W hb => by
          have h := insert_any a0 (a1 ++ a2) k W (by omega) (by rw [← size_list, app_list, List.length_append, size_list, size_list]; omega) (hT.later hb)
          rw [app_list, ← aF, ← bF, ← cF, ← List.flatten_append, e4] at h
          exact h
        clear hA hB hC two e1 e3 e4 hX hY hZ aF bF cF
        go_enter Tryd.func8, Tryd.ntmps8
        go_wp2_with (first
          | (go_at_call 10; with_reducible refine (cH _ hb).mono ?_; rintro e w' ⟨rfl, hb'⟩; replace hb := below_step hb hb'; clear hb')
          | (go_at_call 13; with_reducible refine (cR0 _ hb).mono ?_; rintro e w' ⟨rfl, hb'⟩; replace hb := below_step hb hb'; clear hb')
          | (go_at_call 13; with_reducible refine (cR1 _ hb).mono ?_; rintro e w' ⟨rfl, hb'⟩; replace hb := below_step hb hb'; clear hb')
          | (go_at_call 13; with_reducible refine (cR2 _ hb).mono ?_; rintro e w' ⟨rfl, hb'⟩; replace hb := below_step hb hb'; clear hb')
          | (go_at_call 12; with_reducible refine (cS _ hb).mono ?_; rintro e w' ⟨A0, c0, rfl, hR, hb'⟩; replace hb := below_step hb hb'; clear hb'; clear hR)
          | (go_at_call 15; with_reducible refine (cL _ hb).mono ?_; rintro e w' ⟨rfl, hb'⟩; replace hb := below_step hb hb'; clear hb')
          | (go_at_call 11; with_reducible refine (cI1 _ hb).mono ?_; rintro e w' ⟨rfl, hb'⟩; replace hb := below_step hb hb'; clear hb')
          | (go_at_call 11; with_reducible refine (cI2 _ hb).mono ?_; rintro e w' ⟨rfl, hb'⟩; replace hb := below_step hb hb'; clear hb')
          | (go_at_call 11; with_reducible refine (cI3 _ hb).mono ?_; rintro e w' ⟨rfl, hb'⟩; replace hb := below_step hb hb'; clear hb')
          | (go_at_call 11; with_reducible refine (cI4 _ hb).mono ?_; rintro e w' ⟨rfl, hb'⟩; replace hb := below_step hb hb'; clear hb')
          | (go_at_call 11; with_reducible refine (cI5 _ hb).mono ?_; rintro e w' ⟨rfl, hb'⟩; replace hb := below_step hb hb'; clear hb'))
        go_ret
        exact ⟨rfl, hb⟩
end Go.Proofs.YtkdfgdhfjaapiaaDoor
