/-
  Contracts of Taken, Next, and of what the statements ask of a word by themselves. No condition.
-/
import Derived.Test.YticphioeipbnmaaWordCalls
namespace Go.Proofs.Yticphioeipbnmaa
open Go.RowKit

set_option maxHeartbeats 1000000 in
theorem taken_any (s e g lo hi : Int) (w : World) :
    Calls Try.prog 37 #[wd s e g lo hi] w fun r w' => r = .returned (wd 2 e g lo hi) ∧ Below w.heap.size w w' := by
  go_enter Try.func37, Try.ntmps37
  go_wp2_with fail
  refine bodyPost_ret (v := wd 2 e g lo hi) (by simp [results, Try.results37, go_sem]) rfl ⟨rfl, below_new (below_new (Below.refl _ _) _) _⟩

end Go.Proofs.Yticphioeipbnmaa
