/-
  What the laws on audits have in common: a layout, rows of one event, the document's example. No condition.
-/
import Derived.Test.YtpbpkmmhdfahnaaGreatAudFirst
import Derived.Test.YtpbpkmmhdfahnaaGreatAKit
namespace Go.Proofs.YtpbpkmmhdfahnaaGreat
open Go.RowKit
set_option linter.unusedVariables false

theorem IsEvs.one (W : World) (e : Ev) (he : e.Fit) : IsEvs (W.alloc (e.obj 40)) (some ⟨W.heap.size, 0, none⟩) 1 1 W.heap.size 0 [e] := by
  have h := IsObj.made W [i64 e.who, i64 e.op, i64 e.cell, u64 e.old, u64 e.new, .bool e.ok] 40
  refine ⟨rfl, Nat.le_refl _, fun _ => ⟨rfl, h.lt⟩, fun i x hx => ?_⟩
  match i, hx with
  | 0, hx =>
    cases hx
    exact ⟨⟨h.at' 0 _ rfl, h.at' 1 _ rfl, h.at' 2 _ rfl, h.at' 3 _ rfl, h.at' 4 _ rfl, h.at' 5 _ rfl⟩, he⟩
  | i + 1, hx => simp at hx
theorem alay21 : Lay 2 1 (2 : Nat) := ⟨by decide, by decide, by decide, by decide, by decide, by decide, by decide, by decide⟩
theorem head_one : FirstIs 2 1 0 2 [⟨1, 1, 0, 0, 9, true⟩] 0 := .inr ⟨0, _, rfl, rfl, AllMay.nil _ _ _ _, fun h => by
  obtain ⟨_, _, _, _, _, h6⟩ := h
  rw [if_pos (by decide)] at h6
  rcases h6 with h7 | ⟨_, h7, _⟩ | ⟨h7, _⟩
  · exact absurd h7 (by decide)
  · exact absurd h7 (by decide)
  · exact absurd h7 (by decide)⟩
theorem head_two : FirstIs 2 1 0 2 [⟨0, 1, 0, 0, 9, true⟩] (-1) := .inl ⟨rfl, fun i e h => by
  match i, h with
  | 0, h =>
    cases h
    refine ⟨by decide, by decide, by decide, by decide, rfl, ?_⟩
    rw [if_pos (by decide)]
    exact .inr (.inl (by decide))
  | i + 1, h => simp at h⟩

set_option maxRecDepth 100000 in
set_option maxHeartbeats 4000000 in
theorem head17_any (w : World) : Calls Tryz.prog 6 #[] w fun e w' => e = .returned (.bool true) ∧ Below w.heap.size w w' := by
  have HO := Lib.hid (IsObj.made w [i64 2, i64 1, i64 0, i64 0] 29)
  have HB := Lib.hid (below_new (Below.refl w.heap.size w) (.cells #[i64 2, i64 1, i64 0, i64 0] 29))
  have fit1 : (⟨1, 1, 0, 0, 9, true⟩ : Ev).Fit := ⟨by decide, by decide, by decide, by decide, by decide⟩
  have fit2 : (⟨0, 1, 0, 0, 9, true⟩ : Ev).Fit := ⟨by decide, by decide, by decide, by decide, by decide⟩
  have F1 := Lib.hid fit1
  have F2 := Lib.hid fit2
  clear fit1 fit2
  go_enter Tryz.func6, Tryz.ntmps6
  go_wp2_with fail
  refine (pack_right 1 0 1 0 0 _ (by decide)).mono ?_
  rintro r w1 ⟨rfl, hb⟩
  rw [show (1 : Int) + 4 * 0 + 8 * 1 + 65536 * 0 + 1099511627776 * 0 = 9 from rfl]
  have HO1 := Lib.hid (HO.out.later hb)
  have HB1 := Lib.hid (below_step HB.out hb)
  clear hb HO HB
  obtain ⟨c0, c1, c2, c3⟩ : _ ∧ _ ∧ _ ∧ _ := ⟨HO1.out.at' 0 _ rfl, HO1.out.at' 1 _ rfl, HO1.out.at' 2 _ rfl, HO1.out.at' 3 _ rfl⟩
  go_wp2_with fail
  refine (afirst_any _ _ 1 1 _ 0 _ 0 alay21 (IsEvs.one w1 ⟨1, 1, 0, 0, 9, true⟩ F1.out) (by decide) head_one).mono ?_
  rintro r w2 ⟨rfl, hb⟩
  have hb' := below_step (below_new (Below.refl w1.heap.size w1) _) hb
  have HO2 := Lib.hid (HO1.out.later hb')
  have HB2 := Lib.hid (below_step HB1.out hb')
  clear hb hb' HO1 HB1 c0 c1 c2 c3
  obtain ⟨c0, c1, c2, c3⟩ : _ ∧ _ ∧ _ ∧ _ := ⟨HO2.out.at' 0 _ rfl, HO2.out.at' 1 _ rfl, HO2.out.at' 2 _ rfl, HO2.out.at' 3 _ rfl⟩
  go_wp2_with fail
  refine (afirst_any _ _ 1 1 _ 0 _ (-1) alay21 (IsEvs.one w2 ⟨0, 1, 0, 0, 9, true⟩ F2.out) (by decide) head_two).mono ?_
  rintro r w3 ⟨rfl, hb⟩
  have HB3 := Lib.hid (below_step (below_new HB2.out _) hb)
  clear hb HB2 HO2 c0 c1 c2 c3
  go_wp2_with fail
  go_ret
  exact ⟨rfl, HB3.out⟩
end Go.Proofs.YtpbpkmmhdfahnaaGreat
