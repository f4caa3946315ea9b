/-
  The contract of the laws' own test of a move. No condition.
-/
import Derived.Test.YtpfjommkjkbonaaCodeCalls
namespace Go.Proofs.Ytpfjommkjkbonaa
open Go.RowKit
set_option linter.unusedVariables false

set_option maxHeartbeats 16000000 in
theorem right18_0a (k who ck ce v s n : Int) (w : World) (hk : k = 0) (hw : ¬ 0 ≤ who ∨ (0 ≤ who ∧ ¬ who < 64)) (b : Bool) (yes : (⟨k, who, ck, ce, v, s, n⟩ : CM).Right → b = true) (no : ¬ (⟨k, who, ck, ce, v, s, n⟩ : CM).Right → b = false) : Calls Try.prog 12 #[.agg #[.int .i64 k, .int .i64 who, .int .i64 ck, .int .i64 ce, .int .u64 v, .int .i64 s, .int .i64 n]] w fun r w' => r = .returned (.bool b) ∧ Below w.heap.size w w' := by
  have HB := Lib.hid (below_new (below_new (below_new (Below.refl w.heap.size w) ((⟨k, who, ck, ce, v, s, n⟩ : CM).obj 40)) (.cells #[.int .i64 0, .int .i64 0, .int .u64 0, .int .i64 0] 38)) (.cells #[.int .i64 ck, .int .i64 ce, .int .u64 v, .int .i64 s] 38))
  unfold CM.Right CM.beg CM.stp CM.pas at yes no
  simp only at yes no HB
  subst hk
  rcases hw with h1 | ⟨h1, h2⟩
  all_goals
    rcases (by omega : ce = 0 ∨ ce = 1 ∨ (¬ ce = 0 ∧ ¬ ce = 1)) with rfl | rfl | ⟨h3, h4⟩
  all_goals
    rcases (by omega : (ck = 0 ∧ s = 0) ∨ (ck = 0 ∧ ¬ s = 0) ∨ (ck = 1 ∧ ¬ v = 0) ∨ (ck = 1 ∧ v = 0 ∧ ¬ 0 ≤ s) ∨ (ck = 1 ∧ v = 0 ∧ 0 ≤ s ∧ s ≤ 255) ∨ (ck = 1 ∧ v = 0 ∧ 0 ≤ s ∧ ¬ s ≤ 255) ∨ (¬ ck = 0 ∧ ¬ ck = 1)) with ⟨rfl, rfl⟩ | ⟨rfl, h5⟩ | ⟨rfl, h5⟩ | ⟨rfl, rfl, h5⟩ | ⟨rfl, rfl, h5, h6⟩ | ⟨rfl, rfl, h5, h6⟩ | ⟨h5, h6⟩
  all_goals
    first
      | rw [yes (by omega)]
      | rw [no (by omega)]
    clear yes no
    go_enter Try.func12, Try.ntmps12
    go_wp2_with fail
    go_ret
    exact ⟨rfl, HB.out⟩

end Go.Proofs.Ytpfjommkjkbonaa
