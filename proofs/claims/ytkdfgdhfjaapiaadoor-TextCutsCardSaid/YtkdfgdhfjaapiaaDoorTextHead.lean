/-
  The document's example of texts holds. No condition.
-/
import Derived.Test.YtkdfgdhfjaapiaaDoorTextSigns
namespace Go.Proofs.YtkdfgdhfjaapiaaDoor
open Go.RowKit
set_option linter.unusedVariables false

theorem sg_anb : sg [97, 195, 177, 98] = some [[97], [195, 177], [98]] := by decide
theorem sg_anl : sg [97, 10] = some [[97], [10]] := by decide
set_option maxHeartbeats 2000000 in
theorem head20_any (w : World) (hT : Tabs w) : Calls Tryd.prog 10 #[] w fun e w' => e = .returned (.bool true) ∧ Below w.heap.size w w' := by
  have cC : Calls Tryd.prog 16 #[.string ⟨#[97, 195, 177, 98]⟩, .int .i64 1, .int .i64 1] w fun e w' => e = .returned (.tuple #[.string ⟨#[97, 98]⟩, .string ⟨#[195, 177]⟩, .int .i64 0]) ∧ Below w.heap.size w w' := by
    have h := cut_any ⟨#[97, 195, 177, 98]⟩ 1 1 w (by decide) (by decide) hT
    have e : cutS [97, 195, 177, 98] 1 1 = ([97, 98], [195, 177], 0) := by unfold cutS; rw [sg_anb]; rfl
    rw [e] at h
    exact h
  have cL := fun W => len_any ((sg_iff _ _).1 sg_anb).1 ⟨#[97, 195, 177, 98]⟩ (by decide) (by decide) W
  have cN : ∀ W, Calls Tryd.prog 17 #[.string ⟨#[97, 10]⟩] W fun e w' => e = .returned (.string ⟨#[97, 226, 143, 142]⟩) ∧ Below W.heap.size W w' := fun W => lines_any ((sg_iff _ _).1 sg_anl).1 ⟨#[97, 10]⟩ (by decide) (by decide) W
  change ∀ W, Calls Tryd.prog 15 #[.string ⟨#[97, 195, 177, 98]⟩] W fun e w' => e = .returned (.int .i64 3) ∧ Below W.heap.size W w' at cL
  go_enter Tryd.func10, Tryd.ntmps10
  go_wp2_with (first
    | (go_at_call 16; refine cC.mono ?_; rintro e w1 ⟨rfl, hb1⟩)
    | (go_at_call 15; refine (cL _).mono ?_; rintro e w2 ⟨rfl, hb2'⟩; have hb2 := below_step hb1 hb2')
    | (go_at_call 17; refine (cN _).mono ?_; rintro e w3 ⟨rfl, hb3'⟩; have hb3 := below_step hb2 hb3'))
  go_ret
  exact ⟨rfl, hb3⟩
end Go.Proofs.YtkdfgdhfjaapiaaDoor
