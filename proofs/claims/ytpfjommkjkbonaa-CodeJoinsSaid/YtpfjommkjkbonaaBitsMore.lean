/-
  Masks of ints. No condition.
-/
import Derived.Test.YtpfjommkjkbonaaBits
namespace Go.Proofs.Ytpfjommkjkbonaa
open Go.RowKit
theorem and_63 (a : Int) : bits .and .i64 a 63 = a % 64 := by rw [show (63 : Int) = ((63 : Nat) : Int) from rfl, and_i64 a 63 6 rfl (by decide)]; rfl
theorem and_255 (a : Int) : bits .and .i64 a 255 = a % 256 := by rw [show (255 : Int) = ((255 : Nat) : Int) from rfl, and_i64 a 255 8 rfl (by decide)]; rfl
theorem and_7fff (a : Int) : bits .and .i64 a 32767 = a % 32768 := by rw [show (32767 : Int) = ((32767 : Nat) : Int) from rfl, and_i64 a 32767 15 rfl (by decide)]; rfl
theorem and_31 (a : Int) : bits .and .i64 a 31 = a % 32 := by rw [show (31 : Int) = ((31 : Nat) : Int) from rfl, and_i64 a 31 5 rfl (by decide)]; rfl
end Go.Proofs.Ytpfjommkjkbonaa
