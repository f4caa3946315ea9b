/-
  Two numbers of which the one lies beneath the other's bits. No condition but their bounds.
-/
import Derived.Test.YtebgjfhaolgcjaaBase
import Derived.Test.YtebgjfhaolgcjaaBits
namespace Go.Proofs.Ytebgjfhaolgcjaa
open Go.RowKit

theorem or_add8 (a b p : Int) (k : Nat) (hp : p = ((2 ^ k : Nat) : Int)) (h0 : 0 ≤ a) (h1 : a < p) (hb : 0 ≤ b) (hlt : b * p < 18446744073709551616) (hp2 : p < 18446744073709551616) : bits .or .u64 a (b * p) = a + b * p := by
  obtain ⟨n, rfl⟩ := Int.eq_ofNat_of_zero_le h0
  obtain ⟨m, rfl⟩ := Int.eq_ofNat_of_zero_le hb
  subst hp
  rw [← Int.natCast_mul] at hlt ⊢
  rw [u64_or_nat n (m * 2 ^ k) (by omega) (by omega)]
  have h2 : n < 2 ^ k := by omega
  have h3 := Nat.two_pow_add_eq_or_of_lt h2 m
  rw [Nat.mul_comm m, Nat.or_comm, ← h3]
  omega

end Go.Proofs.Ytebgjfhaolgcjaa
