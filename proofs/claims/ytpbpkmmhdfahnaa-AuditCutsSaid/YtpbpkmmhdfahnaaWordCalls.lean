/-
  Contracts of the functions of package word: what each call answers, and that it leaves all memory that was there as it was. No condition but that numbers fit their kinds.
-/
import Derived.Test.YtpbpkmmhdfahnaaProg
import Derived.Test.YtpbpkmmhdfahnaaBase
import Derived.Test.YtpbpkmmhdfahnaaRegion
namespace Go.Proofs.Ytpbpkmmhdfahnaa
open Go.RowKit

theorem or_add (a b p : Int) (k : Nat) (hp : p = ((2 ^ k : Nat) : Int)) (h0 : 0 ≤ a) (h1 : a < p) (hb : 0 ≤ b) (hlt : b * p < 18446744073709551616) (hp2 : p < 18446744073709551616) : bits .or .u64 a (b * p) = a + b * p := by
  obtain ⟨n, rfl⟩ := Int.eq_ofNat_of_zero_le h0
  obtain ⟨m, rfl⟩ := Int.eq_ofNat_of_zero_le hb
  subst hp
  rw [← Int.natCast_mul] at hlt ⊢
  rw [u64_or_nat n (m * 2 ^ k) (by omega) (by omega)]
  have h2 : n < 2 ^ k := by omega
  have h3 := Nat.two_pow_add_eq_or_of_lt h2 m
  rw [Nat.mul_comm m, Nat.or_comm, ← h3]
  omega

theorem and_mod (a m p : Int) (k : Nat) (hp : p = ((2 ^ k : Nat) : Int)) (hm : m = p - 1) (h0 : 0 ≤ a) (h1 : a < 18446744073709551616) (hp2 : p < 18446744073709551616) : bits .and .u64 a m = a % p := by
  obtain ⟨n, rfl⟩ := Int.eq_ofNat_of_zero_le h0
  subst hm hp
  have hpos : 0 < 2 ^ k := Nat.two_pow_pos k
  rw [show ((2 ^ k : Nat) : Int) - 1 = ((2 ^ k - 1 : Nat) : Int) by omega, u64_and_nat n (2 ^ k - 1) (by omega) (by omega), Nat.and_two_pow_sub_one_eq_mod]
  rfl

theorem quiet_below {P : Program} {f : FuncId} {args : Array Value} {w : World} {v : Value} (h : Calls P f args w fun r w' => r = .returned v ∧ w = w') : Calls P f args w fun r w' => r = .returned v ∧ Below w.heap.size w w' :=
  h.mono fun _ _ ⟨he, hw⟩ => ⟨he, by subst hw; exact Below.refl _ _⟩

abbrev wd (s e g lo hi : Int) : Value := .agg #[.int .i64 s, .int .i64 e, .int .i64 g, .int .i64 lo, .int .i64 hi]

def rightW (s e g lo hi : Int) : Bool := decide (0 ≤ s ∧ s ≤ 2 ∧ 0 ≤ e ∧ e ≤ 1 ∧ 0 ≤ g ∧ g ≤ 8191 ∧ 0 ≤ lo ∧ lo ≤ 16777215 ∧ 0 ≤ hi ∧ hi ≤ 16777215)

set_option maxHeartbeats 1000000 in
theorem wright_any (s e g lo hi : Int) (w : World) :
    Calls Try.prog 13 #[wd s e g lo hi] w fun r w' => r = .returned (.bool (rightW s e g lo hi)) ∧ Below w.heap.size w w' := by
  go_enter Try.func13, Try.ntmps13
  go_wp2
  all_goals
    go_ret
    refine ⟨?_, below_new (Below.refl _ _) _⟩
    first
      | (rw [show rightW s e g lo hi = false from decide_eq_false (by omega)]; rfl)
      | (rw [show rightW s e g lo hi = decide (hi ≤ 16777215) from decide_eq_decide.2 (by omega)]; rfl)

set_option maxHeartbeats 1000000 in
theorem pack_right (s e g lo hi : Int) (w : World) (h : 0 ≤ s ∧ s ≤ 2 ∧ 0 ≤ e ∧ e ≤ 1 ∧ 0 ≤ g ∧ g ≤ 8191 ∧ 0 ≤ lo ∧ lo ≤ 16777215 ∧ 0 ≤ hi ∧ hi ≤ 16777215) :
    Calls Try.prog 9 #[wd s e g lo hi] w fun r w' => r = .returned (u64 (s + 4 * e + 8 * g + 65536 * lo + 1099511627776 * hi)) ∧ Below w.heap.size w w' := by
  have hr : rightW s e g lo hi = true := decide_eq_true h
  obtain ⟨h1, h2, h3, h4, h5, h6, h7, h8, h9, h10⟩ := h
  have q0 : (w.alloc (.cells #[.int .i64 s, .int .i64 e, .int .i64 g, .int .i64 lo, .int .i64 hi] 37)).cell? ⟨w.heap.size, 0, none⟩ = some (i64 s) := by go_simp
  have q1 : (w.alloc (.cells #[.int .i64 s, .int .i64 e, .int .i64 g, .int .i64 lo, .int .i64 hi] 37)).cell? ⟨w.heap.size, 1, none⟩ = some (i64 e) := by go_simp
  have q2 : (w.alloc (.cells #[.int .i64 s, .int .i64 e, .int .i64 g, .int .i64 lo, .int .i64 hi] 37)).cell? ⟨w.heap.size, 2, none⟩ = some (i64 g) := by go_simp
  have q3 : (w.alloc (.cells #[.int .i64 s, .int .i64 e, .int .i64 g, .int .i64 lo, .int .i64 hi] 37)).cell? ⟨w.heap.size, 3, none⟩ = some (i64 lo) := by go_simp
  have q4 : (w.alloc (.cells #[.int .i64 s, .int .i64 e, .int .i64 g, .int .i64 lo, .int .i64 hi] 37)).cell? ⟨w.heap.size, 4, none⟩ = some (i64 hi) := by go_simp
  go_enter Try.func9, Try.ntmps9
  go_wp2_with fail
  refine (wright_any _ _ _ _ _ _).mono ?_
  rintro r w1 ⟨rfl, hb1⟩
  replace q0 := cell_later hb1 q0
  replace q1 := cell_later hb1 q1
  replace q2 := cell_later hb1 q2
  replace q3 := cell_later hb1 q3
  replace q4 := cell_later hb1 q4
  go_wp2_with fail
  go_ret
  have hp : bits BinOp.or IntKind.u64 (bits BinOp.or IntKind.u64 (bits BinOp.or IntKind.u64 (bits BinOp.or IntKind.u64 s (e * 4)) (g * 8)) (lo * 65536)) (hi * 1099511627776) = s + 4 * e + 8 * g + 65536 * lo + 1099511627776 * hi := by
    rw [or_add s e 4 2 rfl (by omega) (by omega) (by omega) (by omega) (by omega), or_add _ g 8 3 rfl (by omega) (by omega) (by omega) (by omega) (by omega), or_add _ lo 65536 16 rfl (by omega) (by omega) (by omega) (by omega) (by omega), or_add _ hi 1099511627776 40 rfl (by omega) (by omega) (by omega) (by omega) (by omega)]
    omega
  rw [← hp]
  exact ⟨rfl, below_step (below_new (Below.refl _ _) _) hb1⟩

set_option maxHeartbeats 1000000 in
theorem pack_wrong (s e g lo hi : Int) (w : World) (hr : rightW s e g lo hi = false) :
    Calls Try.prog 9 #[wd s e g lo hi] w fun r w' => r = .returned (u64 0) ∧ Below w.heap.size w w' := by
  go_enter Try.func9, Try.ntmps9
  go_wp2_with fail
  refine (wright_any _ _ _ _ _ _).mono ?_
  rintro r w1 ⟨rfl, hb1⟩
  go_wp2_with fail
  go_ret
  exact ⟨rfl, below_step (below_new (Below.refl _ _) _) hb1⟩

set_option maxHeartbeats 1000000 in
theorem unpack_any (x : Int) (w : World) (h0 : 0 ≤ x) (h1 : x ≤ 18446744073709551615) :
    Calls Try.prog 18 #[u64 x] w fun r w' => r = .returned (wd (x % 4) (x / 4 % 2) (x / 8 % 8192) (x / 65536 % 16777216) (x / 1099511627776)) ∧ Below w.heap.size w w' := by
  have c1 : wrap64 (bits BinOp.and IntKind.u64 x 3) = x % 4 := by rw [and_mod x 3 4 2 rfl rfl (by omega) (by omega) (by omega)]; unfold wrap64; omega
  have c2 : wrap64 (bits BinOp.and IntKind.u64 (x / 4) 1) = x / 4 % 2 := by rw [and_mod _ 1 2 1 rfl rfl (by omega) (by omega) (by omega)]; unfold wrap64; omega
  have c3 : wrap64 (bits BinOp.and IntKind.u64 (x / 8) 8191) = x / 8 % 8192 := by rw [and_mod _ 8191 8192 13 rfl rfl (by omega) (by omega) (by omega)]; unfold wrap64; omega
  have c4 : wrap64 (bits BinOp.and IntKind.u64 (x / 65536) 16777215) = x / 65536 % 16777216 := by rw [and_mod _ 16777215 16777216 24 rfl rfl (by omega) (by omega) (by omega)]; unfold wrap64; omega
  have c5 : wrap64 (bits BinOp.and IntKind.u64 (x / 1099511627776) 16777215) = x / 1099511627776 := by rw [and_mod _ 16777215 16777216 24 rfl rfl (by omega) (by omega) (by omega)]; unfold wrap64; omega
  rw [← c1, ← c2, ← c3, ← c4]
  rw [← c5]
  clear c1 c2 c3 c4 c5
  go_enter Try.func18, Try.ntmps18
  go_wp2_with fail
  refine bodyPost_ret (v := wd (wrap64 (bits BinOp.and IntKind.u64 x 3)) (wrap64 (bits BinOp.and IntKind.u64 (x / 4) 1)) (wrap64 (bits BinOp.and IntKind.u64 (x / 8) 8191)) (wrap64 (bits BinOp.and IntKind.u64 (x / 65536) 16777215)) (wrap64 (bits BinOp.and IntKind.u64 (x / 1099511627776) 16777215))) (by simp [results, Try.results18, go_sem]) rfl ⟨rfl, below_new (Below.refl _ _) _⟩


def otherE (e : Int) : Int := if e = 0 then 1 else 0

end Go.Proofs.Ytpbpkmmhdfahnaa
