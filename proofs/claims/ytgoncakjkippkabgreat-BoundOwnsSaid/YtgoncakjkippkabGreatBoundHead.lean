/-
  The head of the laws on how long calls take: the document's example. No condition.
-/
import Derived.Test.YtgoncakjkippkabGreatBoundMost
namespace Go.Proofs.YtgoncakjkippkabGreat
open Go.RowKit
set_option linter.unusedVariables false

theorem bn_one : BN 1 1 0 0 1 5 := ⟨⟨by decide, by decide, by decide, by decide, by decide, by decide, by decide, by decide⟩, by decide, by decide, by decide, by decide, by decide, by decide⟩
theorem IsI.two (W : World) (x y : Int) (T : TypeId) : IsI (W.alloc (.cells #[i64 x, i64 y] T)) (some ⟨W.heap.size, 0, none⟩) [x, y] := fun _ => ⟨W.heap.size, 0, rfl, by simp, fun i hi => by
  match i, hi with
  | 0, _ => simp
  | 1, _ => simp
  | n + 2, hi => exact absurd hi (by simp only [List.length_cons, List.length_nil]; omega)⟩

set_option maxRecDepth 100000 in
set_option maxHeartbeats 2000000 in
theorem head16_any (w : World) : Calls Tryz.prog 5 #[] w fun e w' => e = .returned (.bool true) ∧ Below w.heap.size w w' := by
  have HO := Lib.hid (IsObj.made w [i64 1, i64 1, i64 0, i64 0] 27)
  have HB := Lib.hid (below_new (Below.refl w.heap.size w) (.cells #[i64 1, i64 1, i64 0, i64 0] 27))
  go_enter Tryz.func5, Tryz.ntmps5
  go_wp2_with fail
  refine (bput_any bn_one _).mono ?_
  rintro r w1 ⟨rfl, hb⟩
  have HO1 := Lib.hid (HO.out.later hb)
  have HB1 := Lib.hid (below_step HB.out hb)
  clear hb HO HB
  obtain ⟨c0, c1, c2, c3⟩ : _ ∧ _ ∧ _ ∧ _ := ⟨HO1.out.at' 0 _ rfl, HO1.out.at' 1 _ rfl, HO1.out.at' 2 _ rfl, HO1.out.at' 3 _ rfl⟩
  go_wp2_with fail
  refine (bget_nat bn_one 0 14 (by decide) rfl _).mono ?_
  rintro r w2 ⟨rfl, hb⟩
  have HO2 := Lib.hid (HO1.out.later hb)
  have HB2 := Lib.hid (below_step HB1.out hb)
  clear hb HO1 HB1 c0 c1 c2 c3
  obtain ⟨c0, c1, c2, c3⟩ : _ ∧ _ ∧ _ ∧ _ := ⟨HO2.out.at' 0 _ rfl, HO2.out.at' 1 _ rfl, HO2.out.at' 2 _ rfl, HO2.out.at' 3 _ rfl⟩
  go_wp2_with fail
  refine (bwin_any bn_one 1 29 rfl rfl _).mono ?_
  rintro r w3 ⟨rfl, hb⟩
  have HB3 := Lib.hid (below_step HB2.out hb)
  clear hb HO2 HB2 c0 c1 c2 c3
  go_wp2_with fail
  refine (bgaps_any _ _ 2 [2, 9] 12 (IsI.two w3 2 9 _) (by decide) (by decide) (by decide) (by decide)).mono ?_
  rintro r w4 ⟨rfl, hb⟩
  have HB4 := Lib.hid (below_step (below_new HB3.out _) hb)
  have e7 : gapsV [2, 9] 12 = 7 := by decide
  rw [e7]
  clear hb HB3 e7
  go_wp2_with fail
  refine (bgaps_any _ none 0 [] 4 (fun h => absurd h (by decide)) (by decide) (by decide) (by decide) (by decide)).mono ?_
  rintro r w5 ⟨rfl, hb⟩
  have HB5 := Lib.hid (below_step HB4.out hb)
  have e4 : gapsV [] 4 = 4 := by decide
  rw [e4]
  clear hb HB4 e4
  go_wp2_with fail
  go_ret
  exact ⟨rfl, HB5.out⟩
end Go.Proofs.YtgoncakjkippkabGreat
