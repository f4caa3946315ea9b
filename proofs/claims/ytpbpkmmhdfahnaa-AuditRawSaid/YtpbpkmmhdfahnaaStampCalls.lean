/-
  Contracts of the functions of package stamp: what each call answers, and that it leaves all memory that was there as it was. No condition.
-/
import Derived.Test.YtpbpkmmhdfahnaaProg
import Derived.Test.YtpbpkmmhdfahnaaBase
import Derived.WalkKit
import Derived.WalkSpells
import Derived.WalkLawsBesides
import Derived.Deep.RegionHeld3
import Derived.Deep.DeepCutAuto
import Derived.Lib.Hide
namespace Go.Proofs.Ytpbpkmmhdfahnaa
open Go.RowKit

def rightB (a b : Int) : Bool := decide (0 ≤ a ∧ a ≤ b ∧ b < 16777215)

set_option maxHeartbeats 400000 in
theorem right_any (a b : Int) (w : World) :
    Calls Try.prog 22 #[st a b] w fun e w' => e = .returned (.bool (rightB a b)) ∧ Below w.heap.size w w' := by
  by_cases h1 : 0 ≤ a
  · by_cases h2 : a ≤ b
    · by_cases h3 : b < 16777215
      · have hr : rightB a b = true := by simp [rightB, h1, h2, h3]
        have Hr := Lib.hid hr; clear hr
        go_enter Try.func22, Try.ntmps22
        go_wp2
        go_ret
        exact ⟨by rw [Hr.out]; rfl, (Below.refl _ _).alloc (Nat.le_refl _) _⟩
      · have hr : rightB a b = false := by simp [rightB, h3]
        have Hr := Lib.hid hr; clear hr
        go_enter Try.func22, Try.ntmps22
        go_wp2
        go_ret
        exact ⟨by rw [Hr.out]; rfl, (Below.refl _ _).alloc (Nat.le_refl _) _⟩
    · have hr : rightB a b = false := by simp [rightB, h2]
      have Hr := Lib.hid hr; clear hr
      go_enter Try.func22, Try.ntmps22
      go_wp2
      go_ret
      exact ⟨by rw [Hr.out]; rfl, (Below.refl _ _).alloc (Nat.le_refl _) _⟩
  · have hr : rightB a b = false := by simp [rightB, h1]
    have Hr := Lib.hid hr; clear hr
    go_enter Try.func22, Try.ntmps22
    go_wp2
    go_ret
    exact ⟨by rw [Hr.out]; rfl, (Below.refl _ _).alloc (Nat.le_refl _) _⟩

/-- cmp.Compare on ints. -/
def cmpI (a b : Int) : Int := if a < b then -1 else if b < a then 1 else 0

/-- cmp.Or of two ints. -/
def orI (x y : Int) : Int := if x = 0 then y else x

/-- The order of stamps. -/
def cmpS (a b c d : Int) : Int := orI (cmpI a c) (cmpI b d)

def minZ (a c : Int) : Int := min a c
def maxZ (a c : Int) : Int := max a c

end Go.Proofs.Ytpbpkmmhdfahnaa
