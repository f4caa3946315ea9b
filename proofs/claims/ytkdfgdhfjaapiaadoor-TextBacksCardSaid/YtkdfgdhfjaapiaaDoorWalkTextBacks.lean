/-
  TextBacks: what is put in, and cut out again, leaves the text; what is cut out, and put in again, too: the walk. No condition.
-/
import Derived.Test.YtkdfgdhfjaapiaaDoorTextHead
namespace Go.Proofs.YtkdfgdhfjaapiaaDoor
open Go.RowKit
set_option linter.unusedVariables false

set_option maxHeartbeats 4000000 in
theorem walk_TextBacks (a0 : ByteArray) (a1 : ByteArray) (a2 : Int) (a3 : Int) (w : World) (w0 : a0.size ≤ maxLen) (w1 : a1.size ≤ maxLen) (w2 : (Lit.int .i64 a2).wf = true) (w3 : (Lit.int .i64 a3).wf = true) (hT : Tabs w) :
    Calls Tryd.prog 5 #[.string a0, .string a1, .int .i64 a2, .int .i64 a3] w fun e w' => e = .returned (.bool true) ∧ Below w.heap.size w w' := by
  have cH := fun (W : World) (hb : Below w.heap.size w W) => head20_any W (hT.later hb)
  have hb := Below.refl w.heap.size w
  by_cases h0 : 300 < a0.size
  · have h0' : (300 : Int) < (a0.size : Int) := by omega
    go_enter Tryd.func5, Tryd.ntmps5
    go_wp2_with (first
      | (go_at_call 10; with_reducible refine (cH _ hb).mono ?_; rintro e w' ⟨rfl, hb'⟩; replace hb := below_step hb hb'; clear hb'))
    go_ret
    exact ⟨rfl, hb⟩
  have h0' : ¬ ((300 : Int) < (a0.size : Int)) := by omega
  by_cases h1 : 300 < a1.size
  · have h1' : (300 : Int) < (a1.size : Int) := by omega
    go_enter Tryd.func5, Tryd.ntmps5
    go_wp2_with (first
      | (go_at_call 10; with_reducible refine (cH _ hb).mono ?_; rintro e w' ⟨rfl, hb'⟩; replace hb := below_step hb hb'; clear hb'))
    go_ret
    exact ⟨rfl, hb⟩
  have h1' : ¬ ((300 : Int) < (a1.size : Int)) := by omega
  have ha2 : a2 ≤ 9223372036854775807 := by simp [Lit.wf, IntKind.min, IntKind.max, IntKind.signed, IntKind.bits] at w2; omega
  have cI := fun (W : World) (hb : Below w.heap.size w W) => insert_any a0 a1 a2 W (by omega) (by omega) (hT.later hb)
  have cC := fun (W : World) (hb : Below w.heap.size w W) => cut_any a0 a2 a3 W (by omega) ha2 (hT.later hb)
  have cR := fun (W : World) (hb : Below w.heap.size w W) => right_any a0 W (by omega) (hT.later hb)
  clear w0 w1 w2 w3
  cases hA : sg a0.data.toList with
  | none =>
    have eI : insS a0.data.toList a2 a1.data.toList = ([], 3) := by unfold insS; rw [hA]
    have eC : cutS a0.data.toList a2 a3 = ([], [], 3) := by unfold cutS; rw [hA]
    simp only [eI] at cI
    simp only [eC] at cC
    simp only [hA, Option.isSome_none] at cR
    clear eI eC hA
    go_enter Tryd.func5, Tryd.ntmps5
    go_wp2_with (first
      | (go_at_call 10; with_reducible refine (cH _ hb).mono ?_; rintro e w' ⟨rfl, hb'⟩; replace hb := below_step hb hb'; clear hb')
      | (go_at_call 11; with_reducible refine (cI _ hb).mono ?_; rintro e w' ⟨rfl, hb'⟩; replace hb := below_step hb hb'; clear hb')
      | (go_at_call 16; with_reducible refine (cC _ hb).mono ?_; rintro e w' ⟨rfl, hb'⟩; replace hb := below_step hb hb'; clear hb')
      | (go_at_call 13; with_reducible refine (cR _ hb).mono ?_; rintro e w' ⟨rfl, hb'⟩; replace hb := below_step hb hb'; clear hb'))
    go_ret
    exact ⟨rfl, hb⟩
  | some A =>
    simp only [hA, Option.isSome_some] at cR
    have hl0 : lenS a0.data.toList ≤ 4000 := by have := lenS_le a0.data.toList; rw [size_list] at this; omega
    clear hA
    obtain ⟨X, eI⟩ : ∃ X, insS a0.data.toList a2 a1.data.toList = X := ⟨_, rfl⟩
    obtain ⟨x, xe⟩ := X
    obtain ⟨Y, eC⟩ : ∃ Y, cutS a0.data.toList a2 a3 = Y := ⟨_, rfl⟩
    obtain ⟨r, c, ye⟩ := Y
    simp only [eI] at cI
    simp only [eC] at cC
    have hX : xe = 0 → ∃ B : List Bs, (∀ W, Calls Tryd.prog 15 #[.string a1] W fun e w' => e = .returned (.int .i64 B.length) ∧ Below W.heap.size W w') ∧ ∀ W, Below w.heap.size w W → Calls Tryd.prog 16 #[str x, .int .i64 a2, .int .i64 B.length] W fun e w' => e = .returned (.tuple #[.string a0, .string a1, .int .i64 0]) ∧ Below W.heap.size W w' := by
      rintro rfl
      obtain ⟨A', B, k, hA', hB, e1, e2, e3, hk, hn, ex⟩ := insS_inv eI
      have h1 := ins_cut eI
      have hxl : x.length ≤ 600 := by
        rw [ex]
        have i1 := size_list a0
        have i2 := size_list a1
        rw [e1] at i1
        rw [e2] at i2
        have i3 : A'.flatten = (A'.take k).flatten ++ (A'.drop k).flatten := by rw [← List.flatten_append, List.take_append_drop]
        rw [i3, List.length_append] at i1
        simp only [List.flatten_append, List.length_append]
        omega
      rw [e2, lenS_of hB] at h1
      refine ⟨B, fun W => len_any hB a1 e2 (by omega) W, fun W hb => ?_⟩
      have h := cut_any ⟨x.toArray⟩ a2 B.length W (by rw [size_mk]; omega) ha2 (hT.later hb)
      rw [show (⟨x.toArray⟩ : ByteArray).data.toList = x from by simp, h1, ← e2] at h
      exact h
    have hY : ye = 0 → ∀ W, Below w.heap.size w W → Calls Tryd.prog 11 #[str r, .int .i64 a2, str c] W fun e w' => e = .returned (.tuple #[.string a0, .int .i64 0]) ∧ Below W.heap.size W w' := by
      rintro rfl W hb
      have h1 := cut_ins hl0 eC
      obtain ⟨A', k, n, hA', e1, e2, e3, hk, er, ec⟩ := cutS_inv eC
      have i1 := size_list a0
      rw [e1] at i1
      have hr := lefC_len A' k n
      have hc := outC_len A' k n
      unfold lefC at hr
      unfold outC at hc
      rw [← er] at hr
      rw [← ec] at hc
      have h := insert_any ⟨r.toArray⟩ ⟨c.toArray⟩ a2 W (by rw [size_mk]; omega) (by rw [size_mk]; omega) (hT.later hb)
      rw [show (⟨r.toArray⟩ : ByteArray).data.toList = r from by simp, show (⟨c.toArray⟩ : ByteArray).data.toList = c from by simp, h1] at h
      exact h
    clear eI eC hl0
    by_cases hx0 : xe = 0
    · obtain ⟨B, cL, cC2⟩ := hX hx0
      subst hx0
      by_cases hy0 : ye = 0
      · have cI2 := hY hy0
        subst hy0
        go_enter Tryd.func5, Tryd.ntmps5
        go_wp2_with (first
          | (go_at_call 10; with_reducible refine (cH _ hb).mono ?_; rintro e w' ⟨rfl, hb'⟩; replace hb := below_step hb hb'; clear hb')
          | (go_at_call 11; with_reducible refine (cI _ hb).mono ?_; rintro e w' ⟨rfl, hb'⟩; replace hb := below_step hb hb'; clear hb')
          | (go_at_call 15; with_reducible refine (cL _).mono ?_; rintro e w' ⟨rfl, hb'⟩; replace hb := below_step hb hb'; clear hb')
          | (go_at_call 16; with_reducible refine (cC2 _ hb).mono ?_; rintro e w' ⟨rfl, hb'⟩; replace hb := below_step hb hb'; clear hb')
          | (go_at_call 16; with_reducible refine (cC _ hb).mono ?_; rintro e w' ⟨rfl, hb'⟩; replace hb := below_step hb hb'; clear hb')
          | (go_at_call 11; with_reducible refine (cI2 _ hb).mono ?_; rintro e w' ⟨rfl, hb'⟩; replace hb := below_step hb hb'; clear hb')
          | (go_at_call 13; with_reducible refine (cR _ hb).mono ?_; rintro e w' ⟨rfl, hb'⟩; replace hb := below_step hb hb'; clear hb'))
        go_ret
        exact ⟨rfl, hb⟩
      · clear hY
        go_enter Tryd.func5, Tryd.ntmps5
        go_wp2_with (first
          | (go_at_call 10; with_reducible refine (cH _ hb).mono ?_; rintro e w' ⟨rfl, hb'⟩; replace hb := below_step hb hb'; clear hb')
          | (go_at_call 11; with_reducible refine (cI _ hb).mono ?_; rintro e w' ⟨rfl, hb'⟩; replace hb := below_step hb hb'; clear hb')
          | (go_at_call 15; with_reducible refine (cL _).mono ?_; rintro e w' ⟨rfl, hb'⟩; replace hb := below_step hb hb'; clear hb')
          | (go_at_call 16; with_reducible refine (cC2 _ hb).mono ?_; rintro e w' ⟨rfl, hb'⟩; replace hb := below_step hb hb'; clear hb')
          | (go_at_call 16; with_reducible refine (cC _ hb).mono ?_; rintro e w' ⟨rfl, hb'⟩; replace hb := below_step hb hb'; clear hb')
          | (go_at_call 13; with_reducible refine (cR _ hb).mono ?_; rintro e w' ⟨rfl, hb'⟩; replace hb := below_step hb hb'; clear hb'))
        go_ret
        exact ⟨rfl, hb⟩
    · clear hX
      by_cases hy0 : ye = 0
      · have cI2 := hY hy0
        subst hy0
        go_enter Tryd.func5, Tryd.ntmps5
        go_wp2_with (first
          | (go_at_call 10; with_reducible refine (cH _ hb).mono ?_; rintro e w' ⟨rfl, hb'⟩; replace hb := below_step hb hb'; clear hb')
          | (go_at_call 11; with_reducible refine (cI _ hb).mono ?_; rintro e w' ⟨rfl, hb'⟩; replace hb := below_step hb hb'; clear hb')
          | (go_at_call 16; with_reducible refine (cC _ hb).mono ?_; rintro e w' ⟨rfl, hb'⟩; replace hb := below_step hb hb'; clear hb')
          | (go_at_call 11; with_reducible refine (cI2 _ hb).mono ?_; rintro e w' ⟨rfl, hb'⟩; replace hb := below_step hb hb'; clear hb')
          | (go_at_call 13; with_reducible refine (cR _ hb).mono ?_; rintro e w' ⟨rfl, hb'⟩; replace hb := below_step hb hb'; clear hb'))
        go_ret
        exact ⟨rfl, hb⟩
      · clear hY
        go_enter Tryd.func5, Tryd.ntmps5
        go_wp2_with (first
          | (go_at_call 10; with_reducible refine (cH _ hb).mono ?_; rintro e w' ⟨rfl, hb'⟩; replace hb := below_step hb hb'; clear hb')
          | (go_at_call 11; with_reducible refine (cI _ hb).mono ?_; rintro e w' ⟨rfl, hb'⟩; replace hb := below_step hb hb'; clear hb')
          | (go_at_call 16; with_reducible refine (cC _ hb).mono ?_; rintro e w' ⟨rfl, hb'⟩; replace hb := below_step hb hb'; clear hb')
          | (go_at_call 13; with_reducible refine (cR _ hb).mono ?_; rintro e w' ⟨rfl, hb'⟩; replace hb := below_step hb hb'; clear hb'))
        go_ret
        exact ⟨rfl, hb⟩
end Go.Proofs.YtkdfgdhfjaapiaaDoor
