/-
  Contracts of Taken, Next, and of what the statements ask of a word by themselves. No condition.
-/
import Derived.Test.YtoogdfjlodchhaaWordCalls
namespace Go.Proofs.Ytoogdfjlodchhaa
open Go.RowKit

set_option maxHeartbeats 1000000 in
theorem taken_any (s e g lo hi : Int) (w : World) :
    Calls Try.prog 51 #[wd s e g lo hi] w fun r w' => r = .returned (wd 2 e g lo hi) ∧ Below w.heap.size w w' := by
  go_enter Try.func51, Try.ntmps51
  go_wp2_with fail
  refine bodyPost_ret (v := wd 2 e g lo hi) (by simp [results, Try.results51, go_sem]) rfl ⟨rfl, below_new (below_new (Below.refl _ _) _) _⟩

set_option maxHeartbeats 1000000 in
theorem next_any (s e g lo hi e' lo' hi' : Int) (w : World) :
    Calls Try.prog 84 #[wd s e g lo hi, i64 e', st lo' hi'] w fun r w' => r = .returned (wd 1 e' (wrap64 (g + 1)) lo' hi') ∧ Below w.heap.size w w' := by
  go_enter Try.func84, Try.ntmps84
  go_wp2_with fail
  refine bodyPost_ret (v := wd 1 e' (wrap64 (g + 1)) lo' hi') (by simp [results, Try.results84, go_sem]) rfl ⟨rfl, below_new (below_new (below_new (Below.refl _ _) _) _) _⟩

end Go.Proofs.Ytoogdfjlodchhaa
