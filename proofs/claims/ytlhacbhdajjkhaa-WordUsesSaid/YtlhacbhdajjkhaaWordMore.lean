/-
  Contracts of Taken, Next, and of what the statements ask of a word by themselves. No condition.
-/
import Derived.Test.YtlhacbhdajjkhaaWordCalls
namespace Go.Proofs.Ytlhacbhdajjkhaa
open Go.RowKit

set_option maxHeartbeats 1000000 in
theorem lawright_any (s e g lo hi : Int) (w : World) :
    Calls Try.prog 25 #[wd s e g lo hi] w fun r w' => r = .returned (.bool (rightW s e g lo hi)) ∧ Below w.heap.size w w' := by
  go_enter Try.func25, Try.ntmps25
  go_wp2
  all_goals
    go_ret
    refine ⟨?_, below_new (Below.refl _ _) _⟩
    first
      | (rw [show rightW s e g lo hi = false from decide_eq_false (by omega)]; rfl)
      | (rw [show rightW s e g lo hi = decide (hi ≤ 16777215) from decide_eq_decide.2 (by omega)]; rfl)

set_option maxHeartbeats 1000000 in
theorem taken_any (s e g lo hi : Int) (w : World) :
    Calls Try.prog 28 #[wd s e g lo hi] w fun r w' => r = .returned (wd 2 e g lo hi) ∧ Below w.heap.size w w' := by
  go_enter Try.func28, Try.ntmps28
  go_wp2_with fail
  refine bodyPost_ret (v := wd 2 e g lo hi) (by simp [results, Try.results28, go_sem]) rfl ⟨rfl, below_new (below_new (Below.refl _ _) _) _⟩

set_option maxHeartbeats 1000000 in
theorem next_any (s e g lo hi e' lo' hi' : Int) (w : World) :
    Calls Try.prog 29 #[wd s e g lo hi, i64 e', st lo' hi'] w fun r w' => r = .returned (wd 1 e' (wrap64 (g + 1)) lo' hi') ∧ Below w.heap.size w w' := by
  go_enter Try.func29, Try.ntmps29
  go_wp2_with fail
  refine bodyPost_ret (v := wd 1 e' (wrap64 (g + 1)) lo' hi') (by simp [results, Try.results29, go_sem]) rfl ⟨rfl, below_new (below_new (below_new (Below.refl _ _) _) _) _⟩

end Go.Proofs.Ytlhacbhdajjkhaa
