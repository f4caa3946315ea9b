/-
  The head of the laws on scripts as bytes: the document's example. No condition.
-/
import Derived.Test.YtebgjfhaolgcjaaCodeSame
namespace Go.Proofs.Ytebgjfhaolgcjaa
open Go.RowKit
set_option linter.unusedVariables false

set_option maxHeartbeats 4000000 in
theorem head18_any (w : World) : Calls Try.prog 4 #[] w fun r w' => r = .returned (.bool true) ∧ Below w.heap.size w w' := by
  have hI := (isat_one w ⟨1, 1, 0, 0, 0, 0, 0⟩).later (below_new (Below.refl _ _) (.cells #[.int .i64 2, .int .i64 3, .int .i64 0, .int .i64 0, .slice (some ⟨w.heap.size, 0, none⟩) 1 1] 28))
  have HI := Lib.hid hI
  have HB := Lib.hid (below_new (below_new (Below.refl w.heap.size w) ((⟨1, 1, 0, 0, 0, 0, 0⟩ : CM).obj 37)) (.cells #[.int .i64 2, .int .i64 3, .int .i64 0, .int .i64 0, .slice (some ⟨w.heap.size, 0, none⟩) 1 1] 28))
  clear hI
  go_enter Try.func4, Try.ntmps4
  go_wp2_with fail
  refine (encode_any 2 3 0 0 (some ⟨w.heap.size, 0, none⟩) 1 [⟨1, 1, 0, 0, 0, 0, 0⟩] _ HI.out (fun m hm => by rw [List.mem_singleton.1 hm]; exact ⟨by decide, by decide⟩) (by decide)).mono ?_
  rintro r w2 ⟨v, e, rfl, hb, hE⟩
  obtain ⟨rfl, ho⟩ := hE.yes (by decide) (by decide) (fun m hm => by rw [List.mem_singleton.1 hm]; exact .inr (.inl ⟨rfl, by decide, by decide, rfl, rfl, rfl, rfl, rfl⟩))
  obtain ⟨A, cp, rfl⟩ := own_shape ho
  have hb2 := below_step HB.out hb
  have HB2 := Lib.hid (below_new hb2 (.cells ([2, 3, 0, 0, 1, 1].map u8).toArray 5))
  have HA := Lib.hid (Row8.later (w' := w2.alloc (.cells ([2, 3, 0, 0, 1, 1].map u8).toArray 5)) (Row8.own ho (by show Byt [2, 3, 0, 0, 1, 1]; unfold Byt; decide)) (below_new (Below.refl _ _) _))
  have HC := Lib.hid (Row8.own (row8_made w2 w2.heap.size [2, 3, 0, 0, 1, 1] (Nat.le_refl _) (by unfold maxLen; decide)) (by unfold Byt; decide))
  clear ho hb hb2 hE HI HB
  go_wp2_with fail
  refine (same18_any A _ [2, 3, 0, 0, 1, 1] [2, 3, 0, 0, 1, 1] cp 6 _ HA.out HC.out).mono ?_
  rintro r w3 ⟨rfl, rfl⟩
  go_wp2_with fail
  go_ret
  exact ⟨rfl, HB2.out⟩
end Go.Proofs.Ytebgjfhaolgcjaa
