/-
  The contract of the laws' own test of a move. No condition.
-/
import Derived.Test.YtpfjommkjkbonaaCodeRightA
import Derived.Test.YtpfjommkjkbonaaCodeRightB
import Derived.Test.YtpfjommkjkbonaaCodeRightC
namespace Go.Proofs.Ytpfjommkjkbonaa
open Go.RowKit
set_option linter.unusedVariables false

theorem right18_any (m : CM) (w : World) : Calls Try.prog 12 #[m.val] w fun r w' => r = .returned (.bool (decide m.Right)) ∧ Below w.heap.size w w' := by
  obtain ⟨k, who, ck, ce, v, s, n⟩ := m
  have yes : (⟨k, who, ck, ce, v, s, n⟩ : CM).Right → decide (⟨k, who, ck, ce, v, s, n⟩ : CM).Right = true := decide_eq_true
  have no : ¬ (⟨k, who, ck, ce, v, s, n⟩ : CM).Right → decide (⟨k, who, ck, ce, v, s, n⟩ : CM).Right = false := decide_eq_false
  generalize decide (⟨k, who, ck, ce, v, s, n⟩ : CM).Right = b at yes no ⊢
  by_cases k0 : k = 0
  · subst k0
    by_cases hw : 0 ≤ who ∧ who < 64
    · by_cases hn : n = 0
      · exact right18_0c 0 who ck ce v s n w rfl hw.1 hw.2 hn b yes no
      · exact right18_0b 0 who ck ce v s n w rfl hw.1 hw.2 hn b yes no
    · exact right18_0a 0 who ck ce v s n w rfl (by omega) b yes no
  by_cases k1 : k = 1
  · subst k1
    by_cases hw : 0 ≤ who ∧ who < 64 ∧ n = 0
    · exact right18_1b 1 who ck ce v s n w rfl hw.1 hw.2.1 hw.2.2 b yes no
    · exact right18_1a 1 who ck ce v s n w rfl (by omega) b yes no
  by_cases k2 : k = 2
  · subst k2
    by_cases hw : who = 0
    · exact right18_2b 2 who ck ce v s n w rfl hw b yes no
    · exact right18_2a 2 who ck ce v s n w rfl (by omega) b yes no
  · exact right18_3 k who ck ce v s n w k0 k1 k2 b yes no
end Go.Proofs.Ytpfjommkjkbonaa
