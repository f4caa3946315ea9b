/-
  TaskRights answers true for all numbers, and leaves all memory that was there as it was. No condition.
-/
import Derived.Test.YtemaghebpnjmoaaTaskLaw
namespace Go.Proofs.Ytemaghebpnjmoaa
open Go.RowKit
set_option linter.unusedVariables false

set_option maxHeartbeats 2000000 in
theorem walk_TaskRights (a0 : Int) (a1 : Int) (a2 : Int) (a3 : Int) (w : World) (w0 : (Lit.int .i64 a0).wf = true) (w1 : (Lit.int .i64 a1).wf = true) (w2 : (Lit.int .u64 a2).wf = true) (w3 : (Lit.int .i64 a3).wf = true) :
    Calls Try.prog 3 #[.int .i64 a0, .int .i64 a1, .int .u64 a2, .int .i64 a3] w fun e w' => e = .returned (.bool true) ∧ Below w.heap.size w w' := by
  clear w0 w1 w2 w3
  go_enter Try.func3, Try.ntmps3
  go_wp2_with fail
  refine (head12_any _).mono ?_
  rintro e w1 ⟨rfl, hb1⟩
  go_wp2_with fail
  refine (callright_any a0 a1 a2 a3 _).mono ?_
  rintro e w2 ⟨rfl, hb2⟩
  have HB := Lib.hid (below_step (below_new hb1 _) hb2)
  clear hb1 hb2
  go_wp2
  all_goals
    go_ret
    exact ⟨ret_b (by first | (simp; done) | (simp; omega) | (simp; rw [← Bool.decide_or, ← Bool.decide_or, ← Bool.decide_and, decide_eq_decide]; omega)), HB.out⟩

end Go.Proofs.Ytemaghebpnjmoaa
