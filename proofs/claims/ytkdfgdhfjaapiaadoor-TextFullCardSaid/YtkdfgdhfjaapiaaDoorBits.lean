/-
  Plain lemmas on bits of numbers, over any program. No condition but that the mask is one less than a power of two.
-/
import Derived.Test.YtkdfgdhfjaapiaaDoorBase
namespace Go.Proofs.YtkdfgdhfjaapiaaDoor
open Go.RowKit

theorem and_i64 (a : Int) (m k : Nat) (hm : m + 1 = 2 ^ k) (hk : k ≤ 32) : bits .and .i64 a (m : Int) = a % ((m : Int) + 1) := by
  have h2 : 2 ^ k ≤ 2 ^ 32 := Nat.pow_le_pow_right (by decide) hk
  show IntKind.i64.wrap ((BitVec.ofInt 64 a &&& BitVec.ofInt 64 (m : Int)).toNat : Int) = _
  have hm' : (BitVec.ofInt 64 (m : Int)).toNat = m := by
    rw [BitVec.toNat_ofInt]
    omega
  rw [BitVec.toNat_and, hm', show m = 2 ^ k - 1 by omega, Nat.and_two_pow_sub_one_eq_mod, BitVec.toNat_ofInt, ← hm, IntKind.wrap_i64]
  have hd : ((m + 1 : Nat) : Int) ∣ 18446744073709551616 := by
    rw [hm]
    refine ⟨((2 ^ (64 - k) : Nat) : Int), ?_⟩
    rw [← Int.natCast_mul, ← Nat.pow_add, show k + (64 - k) = 64 by omega]
    rfl
  have e1 : (((a % ((2 ^ 64 : Nat) : Int)).toNat % (m + 1) : Nat) : Int) = a % ((m : Int) + 1) := by
    rw [Int.natCast_emod, Int.toNat_of_nonneg (by omega)]
    have := Int.emod_emod_of_dvd a hd
    simpa using this
  rw [e1]
  have h0 := Int.emod_nonneg a (show ((m : Int) + 1) ≠ 0 by omega)
  have h1 := Int.emod_lt_of_pos a (show (0 : Int) < (m : Int) + 1 by omega)
  have h3 : ((m : Int) + 1) ≤ 4294967296 := by
    have : m + 1 ≤ 4294967296 := by omega
    omega
  simp only [show m + 1 - 1 = m by omega]
  omega

end Go.Proofs.YtkdfgdhfjaapiaaDoor
