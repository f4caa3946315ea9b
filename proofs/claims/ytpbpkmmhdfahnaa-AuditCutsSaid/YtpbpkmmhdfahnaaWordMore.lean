/-
  Contracts of Taken, Next, and of what the statements ask of a word by themselves. No condition.
-/
import Derived.Test.YtpbpkmmhdfahnaaWordCalls
namespace Go.Proofs.Ytpbpkmmhdfahnaa
open Go.RowKit

set_option maxHeartbeats 1000000 in
theorem taken_any (s e g lo hi : Int) (w : World) :
    Calls Try.prog 31 #[wd s e g lo hi] w fun r w' => r = .returned (wd 2 e g lo hi) ∧ Below w.heap.size w w' := by
  go_enter Try.func31, Try.ntmps31
  go_wp2_with fail
  refine bodyPost_ret (v := wd 2 e g lo hi) (by simp [results, Try.results31, go_sem]) rfl ⟨rfl, below_new (below_new (Below.refl _ _) _) _⟩

set_option maxHeartbeats 1000000 in
theorem next_any (s e g lo hi e' lo' hi' : Int) (w : World) :
    Calls Try.prog 30 #[wd s e g lo hi, i64 e', st lo' hi'] w fun r w' => r = .returned (wd 1 e' (wrap64 (g + 1)) lo' hi') ∧ Below w.heap.size w w' := by
  go_enter Try.func30, Try.ntmps30
  go_wp2_with fail
  refine bodyPost_ret (v := wd 1 e' (wrap64 (g + 1)) lo' hi') (by simp [results, Try.results30, go_sem]) rfl ⟨rfl, below_new (below_new (below_new (Below.refl _ _) _) _) _⟩

end Go.Proofs.Ytpbpkmmhdfahnaa
