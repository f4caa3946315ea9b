/-
  The contract of the laws' own test of a move. No condition.
-/
import Derived.Test.YtpfjommkjkbonaaCodeCalls
namespace Go.Proofs.Ytpfjommkjkbonaa
open Go.RowKit
set_option linter.unusedVariables false

set_option maxHeartbeats 16000000 in
theorem right18_1a (k who ck ce v s n : Int) (w : World) (hk : k = 1) (hw : ¬ 0 ≤ who ∨ (0 ≤ who ∧ ¬ who < 64) ∨ (0 ≤ who ∧ who < 64 ∧ ¬ n = 0)) (b : Bool) (yes : (⟨k, who, ck, ce, v, s, n⟩ : CM).Right → b = true) (no : ¬ (⟨k, who, ck, ce, v, s, n⟩ : CM).Right → b = false) : Calls Try.prog 12 #[.agg #[.int .i64 k, .int .i64 who, .int .i64 ck, .int .i64 ce, .int .u64 v, .int .i64 s, .int .i64 n]] w fun r w' => r = .returned (.bool b) ∧ Below w.heap.size w w' := by
  have HB := Lib.hid (below_new (below_new (below_new (Below.refl w.heap.size w) ((⟨k, who, ck, ce, v, s, n⟩ : CM).obj 40)) (.cells #[.int .i64 0, .int .i64 0, .int .u64 0, .int .i64 0] 38)) (.cells #[.int .i64 ck, .int .i64 ce, .int .u64 v, .int .i64 s] 38))
  unfold CM.Right CM.beg CM.stp CM.pas at yes no
  simp only at yes no HB
  subst hk
  rcases hw with h1 | ⟨h1, h2⟩ | ⟨h1, h2, hn⟩
  all_goals
    rcases (by omega : ce = 0 ∨ ce = 1 ∨ (¬ ce = 0 ∧ ¬ ce = 1)) with rfl | rfl | ⟨h3, h4⟩
  all_goals
    first
      | rw [yes (by omega)]
      | rw [no (by omega)]
    clear yes no
    go_enter Try.func12, Try.ntmps12
    go_wp2_with fail
    go_ret
    exact ⟨rfl, HB.out⟩

set_option maxHeartbeats 16000000 in
theorem right18_1b (k who ck ce v s n : Int) (w : World) (hk : k = 1) (h1 : 0 ≤ who) (h2 : who < 64) (hn : n = 0) (b : Bool) (yes : (⟨k, who, ck, ce, v, s, n⟩ : CM).Right → b = true) (no : ¬ (⟨k, who, ck, ce, v, s, n⟩ : CM).Right → b = false) : Calls Try.prog 12 #[.agg #[.int .i64 k, .int .i64 who, .int .i64 ck, .int .i64 ce, .int .u64 v, .int .i64 s, .int .i64 n]] w fun r w' => r = .returned (.bool b) ∧ Below w.heap.size w w' := by
  have HB := Lib.hid (below_new (below_new (below_new (Below.refl w.heap.size w) ((⟨k, who, ck, ce, v, s, n⟩ : CM).obj 40)) (.cells #[.int .i64 0, .int .i64 0, .int .u64 0, .int .i64 0] 38)) (.cells #[.int .i64 ck, .int .i64 ce, .int .u64 v, .int .i64 s] 38))
  unfold CM.Right CM.beg CM.stp CM.pas at yes no
  simp only at yes no HB
  subst hk
  subst hn
  rcases (by omega : (¬ ck = 0 ∧ ce = 0) ∨ (¬ ck = 0 ∧ ce = 1) ∨ (¬ ck = 0 ∧ ¬ ce = 0 ∧ ¬ ce = 1) ∨ (ck = 0 ∧ ce = 1) ∨ (ck = 0 ∧ ¬ ce = 0 ∧ ¬ ce = 1) ∨ (ck = 0 ∧ ce = 0 ∧ ¬ v = 0) ∨ (ck = 0 ∧ ce = 0 ∧ v = 0 ∧ ¬ s = 0) ∨ (ck = 0 ∧ ce = 0 ∧ v = 0 ∧ s = 0)) with ⟨h3, rfl⟩ | ⟨h3, rfl⟩ | ⟨h3, h4, h5⟩ | ⟨rfl, rfl⟩ | ⟨rfl, h3, h4⟩ | ⟨rfl, rfl, h3⟩ | ⟨rfl, rfl, rfl, h3⟩ | ⟨rfl, rfl, rfl, rfl⟩
  all_goals
    first
      | rw [yes (by omega)]
      | rw [no (by omega)]
    clear yes no
    go_enter Try.func12, Try.ntmps12
    go_wp2_with fail
    go_ret
    exact ⟨rfl, HB.out⟩

set_option maxHeartbeats 16000000 in
theorem right18_2a (k who ck ce v s n : Int) (w : World) (hk : k = 2) (hw : ¬ 0 ≤ who ∨ (0 ≤ who ∧ ¬ who < 64) ∨ (0 ≤ who ∧ who < 64 ∧ ¬ who = 0)) (b : Bool) (yes : (⟨k, who, ck, ce, v, s, n⟩ : CM).Right → b = true) (no : ¬ (⟨k, who, ck, ce, v, s, n⟩ : CM).Right → b = false) : Calls Try.prog 12 #[.agg #[.int .i64 k, .int .i64 who, .int .i64 ck, .int .i64 ce, .int .u64 v, .int .i64 s, .int .i64 n]] w fun r w' => r = .returned (.bool b) ∧ Below w.heap.size w w' := by
  have HB := Lib.hid (below_new (below_new (below_new (Below.refl w.heap.size w) ((⟨k, who, ck, ce, v, s, n⟩ : CM).obj 40)) (.cells #[.int .i64 0, .int .i64 0, .int .u64 0, .int .i64 0] 38)) (.cells #[.int .i64 ck, .int .i64 ce, .int .u64 v, .int .i64 s] 38))
  unfold CM.Right CM.beg CM.stp CM.pas at yes no
  simp only at yes no HB
  subst hk
  rcases hw with h1 | ⟨h1, h2⟩ | ⟨h1, h2, hn⟩
  all_goals
    rcases (by omega : ce = 0 ∨ ce = 1 ∨ (¬ ce = 0 ∧ ¬ ce = 1)) with rfl | rfl | ⟨h3, h4⟩
  all_goals
    have hz : (who == 0) = false := beq_false_of_ne (by omega)
    first
      | rw [yes (by omega)]
      | rw [no (by omega)]
    clear yes no
    go_enter Try.func12, Try.ntmps12
    go_wp2_with fail
    go_ret
    exact ⟨rfl, HB.out⟩

set_option maxHeartbeats 16000000 in
theorem right18_2b (k who ck ce v s n : Int) (w : World) (hk : k = 2) (hw : who = 0) (b : Bool) (yes : (⟨k, who, ck, ce, v, s, n⟩ : CM).Right → b = true) (no : ¬ (⟨k, who, ck, ce, v, s, n⟩ : CM).Right → b = false) : Calls Try.prog 12 #[.agg #[.int .i64 k, .int .i64 who, .int .i64 ck, .int .i64 ce, .int .u64 v, .int .i64 s, .int .i64 n]] w fun r w' => r = .returned (.bool b) ∧ Below w.heap.size w w' := by
  have HB := Lib.hid (below_new (below_new (below_new (Below.refl w.heap.size w) ((⟨k, who, ck, ce, v, s, n⟩ : CM).obj 40)) (.cells #[.int .i64 0, .int .i64 0, .int .u64 0, .int .i64 0] 38)) (.cells #[.int .i64 ck, .int .i64 ce, .int .u64 v, .int .i64 s] 38))
  unfold CM.Right CM.beg CM.stp CM.pas at yes no
  simp only at yes no HB
  subst hk
  subst hw
  rcases (by omega : (¬ ck = 0 ∧ ce = 0) ∨ (¬ ck = 0 ∧ ce = 1) ∨ (¬ ck = 0 ∧ ¬ ce = 0 ∧ ¬ ce = 1) ∨ (ck = 0 ∧ ce = 1) ∨ (ck = 0 ∧ ¬ ce = 0 ∧ ¬ ce = 1) ∨ (ck = 0 ∧ ce = 0 ∧ ¬ v = 0) ∨ (ck = 0 ∧ ce = 0 ∧ v = 0 ∧ ¬ s = 0) ∨ (ck = 0 ∧ ce = 0 ∧ v = 0 ∧ s = 0 ∧ ¬ 1 ≤ n) ∨ (ck = 0 ∧ ce = 0 ∧ v = 0 ∧ s = 0 ∧ 1 ≤ n ∧ n ≤ 65535) ∨ (ck = 0 ∧ ce = 0 ∧ v = 0 ∧ s = 0 ∧ 1 ≤ n ∧ ¬ n ≤ 65535)) with ⟨h3, rfl⟩ | ⟨h3, rfl⟩ | ⟨h3, h4, h5⟩ | ⟨rfl, rfl⟩ | ⟨rfl, h3, h4⟩ | ⟨rfl, rfl, h3⟩ | ⟨rfl, rfl, rfl, h3⟩ | ⟨rfl, rfl, rfl, rfl, h3⟩ | ⟨rfl, rfl, rfl, rfl, h3, h4⟩ | ⟨rfl, rfl, rfl, rfl, h3, h4⟩
  all_goals
    first
      | rw [yes (by omega)]
      | rw [no (by omega)]
    clear yes no
    go_enter Try.func12, Try.ntmps12
    go_wp2_with fail
    go_ret
    exact ⟨rfl, HB.out⟩

set_option maxHeartbeats 16000000 in
theorem right18_3 (k who ck ce v s n : Int) (w : World)  (k0 : ¬ k = 0) (k1 : ¬ k = 1) (k2 : ¬ k = 2) (b : Bool) (yes : (⟨k, who, ck, ce, v, s, n⟩ : CM).Right → b = true) (no : ¬ (⟨k, who, ck, ce, v, s, n⟩ : CM).Right → b = false) : Calls Try.prog 12 #[.agg #[.int .i64 k, .int .i64 who, .int .i64 ck, .int .i64 ce, .int .u64 v, .int .i64 s, .int .i64 n]] w fun r w' => r = .returned (.bool b) ∧ Below w.heap.size w w' := by
  have HB := Lib.hid (below_new (below_new (below_new (Below.refl w.heap.size w) ((⟨k, who, ck, ce, v, s, n⟩ : CM).obj 40)) (.cells #[.int .i64 0, .int .i64 0, .int .u64 0, .int .i64 0] 38)) (.cells #[.int .i64 ck, .int .i64 ce, .int .u64 v, .int .i64 s] 38))
  unfold CM.Right CM.beg CM.stp CM.pas at yes no
  simp only at yes no HB
  rcases (by omega : ¬ 0 ≤ who ∨ (0 ≤ who ∧ ¬ who < 64) ∨ (0 ≤ who ∧ who < 64)) with h1 | ⟨h1, h2⟩ | ⟨h1, h2⟩
  all_goals
    rcases (by omega : ce = 0 ∨ ce = 1 ∨ (¬ ce = 0 ∧ ¬ ce = 1)) with rfl | rfl | ⟨h3, h4⟩
  all_goals
    first
      | rw [yes (by omega)]
      | rw [no (by omega)]
    clear yes no
    go_enter Try.func12, Try.ntmps12
    go_wp2_with fail
    go_ret
    exact ⟨rfl, HB.out⟩

end Go.Proofs.Ytpfjommkjkbonaa
