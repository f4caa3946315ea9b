/-
  The head of the laws on what calls were done when: the document's example. No condition.
-/
import Derived.Test.YtkadjpllappalaaGreatHistMostCalls
namespace Go.Proofs.YtkadjpllappalaaGreat
open Go.RowKit Go.Maps
set_option linter.unusedVariables false

/-- The law's own 'before'. -/
theorem lbefore_any (w : World) (a b : Dd) : Calls Tryz.prog 22 #[a.val, b.val] w fun e w' => e = .returned (.bool (decide (dBef a b))) ∧ Below w.heap.size w w' := by
  by_cases h : 0 ≤ a.till
  case pos =>
    have e2 : decide (dBef a b) = decide (a.till < b.fr) := decide_eq_decide.2 ⟨fun h => h.2, fun h2 => ⟨h, h2⟩⟩
    go_enter Tryz.func22, Tryz.ntmps22
    go_wp2_with fail
    go_ret
    exact ⟨by rw [e2]; rfl, ((Below.refl _ _).alloc (Nat.le_refl _) _).alloc (by simp) _⟩
  case neg =>
    have e2 : decide (dBef a b) = false := decide_eq_false (fun hh => h hh.1)
    go_enter Tryz.func22, Tryz.ntmps22
    go_wp2_with fail
    go_ret
    exact ⟨rfl, ((Below.refl _ _).alloc (Nat.le_refl _) _).alloc (by simp) _⟩

theorem dds_two (w : World) : IsDds (w.alloc (.cells #[i64 0, i64 0, i64 0, u64 0, i64 0, i64 0, i64 4, .bool false, u64 0, i64 0, i64 0, i64 0, i64 0, i64 0, u64 0, i64 0, i64 0, i64 4, .bool false, u64 0, i64 0, i64 0] 46)) (some ⟨w.heap.size, 0, none⟩) 2 2 w.heap.size 0
    [⟨0, 0, 0, 0, 0, 0, 4, false, 0, 0, 0⟩, ⟨0, 0, 0, 0, 0, 0, 4, false, 0, 0, 0⟩] :=
  ⟨rfl, Nat.le_refl _, fun _ => ⟨rfl, by simp⟩, fun i d hd => by
    match i, hd with
    | 0, hd => cases hd; exact ⟨⟨by simp, by simp, by simp, by simp, by simp, by simp, by simp, by simp, by simp, by simp, by simp⟩, ⟨by decide, by decide, by decide, by decide, by decide⟩⟩
    | 1, hd => cases hd; exact ⟨⟨by simp, by simp, by simp, by simp, by simp, by simp, by simp, by simp, by simp, by simp, by simp⟩, ⟨by decide, by decide, by decide, by decide, by decide⟩⟩
    | n + 2, hd => simp at hd⟩

set_option maxRecDepth 100000 in
set_option maxHeartbeats 2000000 in
theorem head14_any (w : World) : Calls Tryz.prog 4 #[] w fun e w' => e = .returned (.bool true) ∧ Below w.heap.size w w' := by
  go_enter Tryz.func4, Tryz.ntmps4
  go_wp2_with fail
  refine (hbefore_any _ ⟨0, 0, 0, 0, 0, 0, 4, false, 0, 0, 0⟩ ⟨0, 0, 0, 0, 0, 5, -1, false, 0, 0, 0⟩).mono ?_
  rintro e w1 ⟨rfl, hb⟩
  have hB1 := below_step (below_new (Below.refl _ _) _) hb
  obtain ⟨c0, c1, c2, c3, c4, c5, c6, c7, c8, c9, c10⟩ := (AtBd.made w ⟨0, 0, 0, 0, 0, 0, 4, false, 0, 0, 0⟩ 46).later hb
  have HB := Lib.hid hB1
  have e1 : decide (dBef ⟨0, 0, 0, 0, 0, 0, 4, false, 0, 0, 0⟩ ⟨0, 0, 0, 0, 0, 5, -1, false, 0, 0, 0⟩) = true := by decide
  have hs : w.heap.size < w1.heap.size := World.block_lt_of_cell? _ _ c0
  clear hb hB1
  go_wp2_with fail
  refine (hbefore_any _ ⟨0, 0, 0, 0, 0, 0, 4, false, 0, 0, 0⟩ ⟨0, 0, 0, 0, 0, 3, 7, false, 0, 0, 0⟩).mono ?_
  rintro e w2 ⟨rfl, hb⟩
  have hB2 := below_step HB.out hb
  obtain ⟨c0, c1, c2, c3, c4, c5, c6, c7, c8, c9, c10⟩ := AtBd.later (d := ⟨0, 0, 0, 0, 0, 0, 4, false, 0, 0, 0⟩) ⟨c0, c1, c2, c3, c4, c5, c6, c7, c8, c9, c10⟩ hb
  have HB2 := Lib.hid hB2
  have e2 : decide (dBef ⟨0, 0, 0, 0, 0, 0, 4, false, 0, 0, 0⟩ ⟨0, 0, 0, 0, 0, 3, 7, false, 0, 0, 0⟩) = false := by decide
  clear hb hB2 HB e1 hs
  go_wp2_with fail
  refine (hmost_any _ _ _ _ _ _ _ (dds_two w2) (by decide)).mono ?_
  rintro e w3 ⟨rfl, hb⟩
  have e3 : dMost [⟨0, 0, 0, 0, 0, 0, 4, false, 0, 0, 0⟩, ⟨0, 0, 0, 0, 0, 0, 4, false, 0, 0, 0⟩] 2 = 2 := by decide
  have hB3 := below_step HB2.out (below_step (below_new (Below.refl _ _) _) hb)
  have HB3 := Lib.hid hB3
  clear hb hB3
  go_wp2_with fail
  go_ret
  exact ⟨rfl, HB3.out⟩
end Go.Proofs.YtkadjpllappalaaGreat
