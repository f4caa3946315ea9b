/-
  WordBits answers true for every number and place of a bit, and leaves all memory that was there as it was. No condition.
-/
import Derived.Test.YtlhacbhdajjkhabWordCalls
import Derived.OpenShut
namespace Go.Proofs.Ytlhacbhdajjkhab
open Go.RowKit

theorem i64_and_63 (t : Int) : ∃ k : Nat, k < 64 ∧ bits BinOp.and IntKind.i64 t 63 = (k : Int) := by
  refine ⟨(BitVec.ofInt 64 t).toNat % 64, Nat.mod_lt _ (by decide), ?_⟩
  have h : bits BinOp.and IntKind.i64 t 63 = IntKind.i64.wrap (((BitVec.ofInt 64 t).toNat % 64 : Nat) : Int) := by
    show IntKind.i64.wrap ((BitVec.ofInt 64 t &&& BitVec.ofInt 64 63).toNat : Int) = _
    rw [BitVec.toNat_and, show (BitVec.ofInt 64 63).toNat = 2 ^ 6 - 1 from rfl, Nat.and_two_pow_sub_one_eq_mod]
  rw [h, IntWalk.i64_in _ (by omega)]

theorem u64_in (n : Int) (h : 0 ≤ n ∧ n ≤ 18446744073709551615) : IntKind.u64.wrap n = n := by rw [IntKind.wrap_u64]; omega

theorem bit_turn (x t : Int) (h0 : 0 ≤ x) (h1 : x ≤ 18446744073709551615) :
    ∃ y : Int, bits BinOp.xor IntKind.u64 x (IntKind.u64.wrap (2 ^ min (IntKind.u64.wrap (bits BinOp.and IntKind.i64 t 63)).toNat 64)) = y ∧ 0 ≤ y ∧ y ≤ 18446744073709551615 ∧ ¬ x = y := by
  obtain ⟨k, hk, e⟩ := i64_and_63 t
  obtain ⟨n, rfl⟩ := Int.eq_ofNat_of_zero_le h0
  have hp : 2 ^ k < 18446744073709551616 := Nat.lt_of_lt_of_le (Nat.pow_lt_pow_right (by decide) hk) (by decide)
  have hpos : 0 < 2 ^ k := Nat.two_pow_pos k
  have e3 : (2 : Int) ^ k = ((2 ^ k : Nat) : Int) := by simp
  have e2 : IntKind.u64.wrap (2 ^ min (IntKind.u64.wrap (bits BinOp.and IntKind.i64 t 63)).toNat 64) = ((2 ^ k : Nat) : Int) := by
    rw [e, u64_in (k : Int) (by omega), Int.toNat_natCast, Nat.min_eq_left (by omega), e3, u64_in ((2 ^ k : Nat) : Int) (by omega)]
  rw [e2, u64_xor_nat n (2 ^ k) (by omega) hp]
  have hx : n ^^^ 2 ^ k < 2 ^ 64 := Nat.xor_lt_two_pow (by omega) (by omega)
  refine ⟨_, rfl, by omega, by omega, fun h => ?_⟩
  have h2 : n ^^^ 2 ^ k = n := by omega
  have h3 : n ^^^ (n ^^^ 2 ^ k) = 0 := by rw [h2, Nat.xor_self]
  rw [← Nat.xor_assoc, Nat.xor_self, Nat.zero_xor] at h3
  omega

theorem pack_back (x : Int) (w : World) (h : x % 4 < 3) (h0 : 0 ≤ x) (h1 : x ≤ 18446744073709551615) :
    Calls Try.prog 7 #[wd (x % 4) (x / 4 % 2) (x / 8 % 8192) (x / 65536 % 16777216) (x / 1099511627776)] w fun r w' => r = .returned (u64 x) ∧ Below w.heap.size w w' := by
  have hp := pack_right (x % 4) (x / 4 % 2) (x / 8 % 8192) (x / 65536 % 16777216) (x / 1099511627776) w (by omega)
  rw [show x % 4 + 4 * (x / 4 % 2) + 8 * (x / 8 % 8192) + 65536 * (x / 65536 % 16777216) + 1099511627776 * (x / 1099511627776) = x by omega] at hp
  exact hp

theorem right_back (x : Int) (h0 : 0 ≤ x) (h1 : x ≤ 18446744073709551615) : (x % 4 < 3 ∧ rightW (x % 4) (x / 4 % 2) (x / 8 % 8192) (x / 65536 % 16777216) (x / 1099511627776) = true) ∨ rightW (x % 4) (x / 4 % 2) (x / 8 % 8192) (x / 65536 % 16777216) (x / 1099511627776) = false := by
  by_cases h : x % 4 < 3
  · exact .inl ⟨h, decide_eq_true (by omega)⟩
  · exact .inr (decide_eq_false (by omega))

/-- What is known of the word of a number: its parts; whether it is right; that it is packed to that number then. -/
def Parts (x s e g lo hi : Int) : Prop :=
  (∀ W : World, Calls Try.prog 5 #[u64 x] W fun r w' => r = .returned (wd s e g lo hi) ∧ Below W.heap.size W w') ∧
  (rightW s e g lo hi = false ∨ rightW s e g lo hi = true ∧ ∀ W : World, Calls Try.prog 7 #[wd s e g lo hi] W fun r w' => r = .returned (u64 x) ∧ Below W.heap.size W w')

theorem parts_of (x : Int) (h0 : 0 ≤ x) (h1 : x ≤ 18446744073709551615) : Parts x (x % 4) (x / 4 % 2) (x / 8 % 8192) (x / 65536 % 16777216) (x / 1099511627776) := by
  refine ⟨fun W => unpack_any x W h0 h1, ?_⟩
  rcases right_back x h0 h1 with ⟨cx, rx⟩ | rx
  · exact .inr ⟨rx, fun W => pack_back x W cx h0 h1⟩
  · exact .inl rx

set_option maxHeartbeats 8000000 in
theorem bits_ways (x y t s e g lo hi s' e' g' lo' hi' : Int) (w : World) (hy : bits BinOp.xor IntKind.u64 x (IntKind.u64.wrap (2 ^ min (IntKind.u64.wrap (bits BinOp.and IntKind.i64 t 63)).toNat 64)) = y)
    (px : Parts x s e g lo hi) (py : Parts y s' e' g' lo' hi') (hn : ¬ s = s' ∨ (s = s' ∧ ¬ e = e') ∨ (s = s' ∧ e = e' ∧ ¬ g = g') ∨ (s = s' ∧ e = e' ∧ g = g' ∧ ¬ lo = lo') ∨ (s = s' ∧ e = e' ∧ g = g' ∧ lo = lo' ∧ ¬ hi = hi')) :
    Calls Try.prog 3 #[u64 x, i64 t] w fun e w' => e = .returned (.bool true) ∧ Below w.heap.size w w' := by
  obtain ⟨ux, rx⟩ := px
  obtain ⟨uy, ry⟩ := py
  have Ux := Lib.hid ux
  have Uy := Lib.hid uy
  clear ux uy
  rcases hn with c | ⟨rfl, c⟩ | ⟨rfl, rfl, c⟩ | ⟨rfl, rfl, rfl, c⟩ | ⟨rfl, rfl, rfl, rfl, c⟩
  all_goals rcases rx with rx | ⟨rx, kx⟩
  all_goals rcases ry with ry | ⟨ry, ky⟩
  all_goals
    (try have Kx := Lib.hid kx)
    (try have Ky := Lib.hid ky)
    (try clear kx)
    (try clear ky)
    go_enter Try.func3, Try.ntmps3
    go_wp2_with fail
    refine (head2_any _).mono ?_
    rintro r w1 ⟨rfl, hb1⟩
    go_wp2_with fail
    refine (Ux.out _).mono ?_
    rintro r w2 ⟨rfl, hb2⟩
    go_wp2_with fail
    refine (Uy.out _).mono ?_
    rintro r w3 ⟨rfl, hb3⟩
    have q0 := cell_later hb3 (World.cell?_alloc_new w2 #[.int .i64 s, .int .i64 e, .int .i64 g, .int .i64 lo, .int .i64 hi] 30 0)
    have q1 := cell_later hb3 (World.cell?_alloc_new w2 #[.int .i64 s, .int .i64 e, .int .i64 g, .int .i64 lo, .int .i64 hi] 30 1)
    have q2 := cell_later hb3 (World.cell?_alloc_new w2 #[.int .i64 s, .int .i64 e, .int .i64 g, .int .i64 lo, .int .i64 hi] 30 2)
    have q3 := cell_later hb3 (World.cell?_alloc_new w2 #[.int .i64 s, .int .i64 e, .int .i64 g, .int .i64 lo, .int .i64 hi] 30 3)
    have q4 := cell_later hb3 (World.cell?_alloc_new w2 #[.int .i64 s, .int .i64 e, .int .i64 g, .int .i64 lo, .int .i64 hi] 30 4)
    have hz3 : w2.heap.size < w3.heap.size := by have e3 := hb3.size; simp at e3; omega
    go_wp2_with fail
    refine (wright_any _ _ _ _ _ _).mono ?_
    rintro r w4 ⟨rfl, hB⟩
    have hk := below_rule hB
    go_wp2_with (first | (go_at_call 6; refine (wright_any _ _ _ _ _ _).mono ?_; rintro e w' ⟨rfl, hb'⟩; (first | replace hB := below_step hB hb' | replace hB := below_step (below_new hB _) hb'); clear hb'; (try clear hk); have hk := below_rule hB) | (go_at_call 7; (with_reducible refine (Kx.out _).mono ?_); rintro e w' ⟨rfl, hb'⟩; (first | replace hB := below_step hB hb' | replace hB := below_step (below_new hB _) hb'); clear hb'; (try clear hk); have hk := below_rule hB) | (go_at_call 7; (with_reducible refine (Ky.out _).mono ?_); rintro e w' ⟨rfl, hb'⟩; (first | replace hB := below_step hB hb' | replace hB := below_step (below_new hB _) hb'); clear hb'; (try clear hk); have hk := below_rule hB))
    go_ret
    exact ⟨rfl, below_step (below_new (below_step (below_new (below_step (below_step (Below.refl _ _) hb1) hb2) _) hb3) _) hB⟩

theorem differ (x y : Int) (h : ¬ x = y) : ¬ x % 4 = y % 4 ∨ (x % 4 = y % 4 ∧ ¬ x / 4 % 2 = y / 4 % 2) ∨ (x % 4 = y % 4 ∧ x / 4 % 2 = y / 4 % 2 ∧ ¬ x / 8 % 8192 = y / 8 % 8192) ∨ (x % 4 = y % 4 ∧ x / 4 % 2 = y / 4 % 2 ∧ x / 8 % 8192 = y / 8 % 8192 ∧ ¬ x / 65536 % 16777216 = y / 65536 % 16777216) ∨ (x % 4 = y % 4 ∧ x / 4 % 2 = y / 4 % 2 ∧ x / 8 % 8192 = y / 8 % 8192 ∧ x / 65536 % 16777216 = y / 65536 % 16777216 ∧ ¬ x / 1099511627776 = y / 1099511627776) := by
  by_cases c1 : x % 4 = y % 4
  · by_cases c2 : x / 4 % 2 = y / 4 % 2
    · by_cases c3 : x / 8 % 8192 = y / 8 % 8192
      · by_cases c4 : x / 65536 % 16777216 = y / 65536 % 16777216
        · by_cases c5 : x / 1099511627776 = y / 1099511627776
          · exact absurd (by omega) h
          · exact .inr (.inr (.inr (.inr ⟨c1, c2, c3, c4, c5⟩)))
        · exact .inr (.inr (.inr (.inl ⟨c1, c2, c3, c4⟩)))
      · exact .inr (.inr (.inl ⟨c1, c2, c3⟩))
    · exact .inr (.inl ⟨c1, c2⟩)
  · exact .inl c1

set_option maxHeartbeats 2000000 in
theorem walk_WordBits (x t : Int) (w : World) (w0 : (Lit.int .u64 x).wf = true) (_w1 : (Lit.int .i64 t).wf = true) :
    Calls Try.prog 3 #[.int .u64 x, .int .i64 t] w fun e w' => e = .returned (.bool true) ∧ Below w.heap.size w w' := by
  obtain ⟨h0, h1⟩ := bounds_u64 w0
  clear w0
  obtain ⟨y, hy, y0, y1, hne⟩ := bit_turn x t h0 h1
  exact bits_ways x y t _ _ _ _ _ _ _ _ _ _ w hy (parts_of x h0 h1) (parts_of y y0 y1) (differ x y hne)

end Go.Proofs.Ytlhacbhdajjkhab
