/-
  WordPacks answers true for every word, and leaves all memory that was there as it was. No condition.
-/
import Derived.Test.YtlhacbhdajjkhaaWordCalls
namespace Go.Proofs.Ytlhacbhdajjkhaa
open Go.RowKit

theorem or_low (a b p : Int) (k : Nat) (hp : p = ((2 ^ k : Nat) : Int)) (h0 : 0 ≤ a) (h1 : a < p) (hb : 0 ≤ b) (hlt : b * p < 18446744073709551616) (hp2 : p < 18446744073709551616) : bits .or .u64 (b * p) a = b * p + a := by
  obtain ⟨n, rfl⟩ := Int.eq_ofNat_of_zero_le h0
  obtain ⟨m, rfl⟩ := Int.eq_ofNat_of_zero_le hb
  subst hp
  rw [← Int.natCast_mul] at hlt ⊢
  rw [u64_or_nat (m * 2 ^ k) n (by omega) (by omega)]
  have h2 : n < 2 ^ k := by omega
  have h3 := Nat.two_pow_add_eq_or_of_lt h2 m
  rw [Nat.mul_comm m, ← h3]
  omega

set_option maxHeartbeats 2000000 in
theorem walk_WordPacks (s e g lo hi : Int) (w : World) (_w0_0 : (Lit.int .i64 s).wf = true) (_w0_1 : (Lit.int .i64 e).wf = true) (_w0_2 : (Lit.int .i64 g).wf = true) (_w0_3 : (Lit.int .i64 lo).wf = true) (_w0_4 : (Lit.int .i64 hi).wf = true) :
    Calls Try.prog 10 #[wd s e g lo hi] w fun r w' => r = .returned (.bool true) ∧ Below w.heap.size w w' := by
  clear _w0_0 _w0_1 _w0_2 _w0_3 _w0_4
  have q0 : (w.alloc (.cells #[.int .i64 s, .int .i64 e, .int .i64 g, .int .i64 lo, .int .i64 hi] 38)).cell? ⟨w.heap.size, 0, none⟩ = some (i64 s) := by go_simp
  have q1 : (w.alloc (.cells #[.int .i64 s, .int .i64 e, .int .i64 g, .int .i64 lo, .int .i64 hi] 38)).cell? ⟨w.heap.size, 1, none⟩ = some (i64 e) := by go_simp
  have q2 : (w.alloc (.cells #[.int .i64 s, .int .i64 e, .int .i64 g, .int .i64 lo, .int .i64 hi] 38)).cell? ⟨w.heap.size, 2, none⟩ = some (i64 g) := by go_simp
  have q3 : (w.alloc (.cells #[.int .i64 s, .int .i64 e, .int .i64 g, .int .i64 lo, .int .i64 hi] 38)).cell? ⟨w.heap.size, 3, none⟩ = some (i64 lo) := by go_simp
  have q4 : (w.alloc (.cells #[.int .i64 s, .int .i64 e, .int .i64 g, .int .i64 lo, .int .i64 hi] 38)).cell? ⟨w.heap.size, 4, none⟩ = some (i64 hi) := by go_simp
  rcases Bool.eq_false_or_eq_true (rightW s e g lo hi) with hr | hr
  · have hd : 0 ≤ s ∧ s ≤ 2 ∧ 0 ≤ e ∧ e ≤ 1 ∧ 0 ≤ g ∧ g ≤ 8191 ∧ 0 ≤ lo ∧ lo ≤ 16777215 ∧ 0 ≤ hi ∧ hi ≤ 16777215 := by unfold rightW at hr; exact of_decide_eq_true hr
    have hp := fun W => pack_right s e g lo hi W hd
    obtain ⟨h1, h2, h3, h4, h5, h6, h7, h8, h9, h10⟩ := hd
    have r1 : bits BinOp.or IntKind.u64 (hi * 16777216) lo = hi * 16777216 + lo := or_low lo hi 16777216 24 rfl (by omega) (by omega) (by omega) (by omega) (by omega)
    have r2 : bits BinOp.or IntKind.u64 ((hi * 16777216 + lo) * 8192) g = (hi * 16777216 + lo) * 8192 + g := or_low g (hi * 16777216 + lo) 8192 13 rfl (by omega) (by omega) (by omega) (by omega) (by omega)
    have r3 : bits BinOp.or IntKind.u64 (((hi * 16777216 + lo) * 8192 + g) * 2) e = ((hi * 16777216 + lo) * 8192 + g) * 2 + e := or_low e ((hi * 16777216 + lo) * 8192 + g) 2 1 rfl (by omega) (by omega) (by omega) (by omega) (by omega)
    have r4 : bits BinOp.or IntKind.u64 ((((hi * 16777216 + lo) * 8192 + g) * 2 + e) * 4) s = (((hi * 16777216 + lo) * 8192 + g) * 2 + e) * 4 + s := or_low s (((hi * 16777216 + lo) * 8192 + g) * 2 + e) 4 2 rfl (by omega) (by omega) (by omega) (by omega) (by omega)
    obtain ⟨X, hX⟩ : ∃ X : Int, X = s + 4 * e + 8 * g + 65536 * lo + 1099511627776 * hi := ⟨_, rfl⟩
    have hu := fun W => unpack_any X W (by omega) (by omega)
    rw [show X % 4 = s by omega, show X / 4 % 2 = e by omega, show X / 8 % 8192 = g by omega, show X / 65536 % 16777216 = lo by omega, show X / 1099511627776 = hi by omega] at hu
    have x1 : (X == (((hi * 16777216 + lo) * 8192 + g) * 2 + e) * 4 + s) = true := beq_iff_eq.2 (by omega)
    rw [← hX] at hp
    have Hp := Lib.hid hp
    have Hu := Lib.hid hu
    clear hp hu hX
    go_enter Try.func10, Try.ntmps10
    go_wp2_with fail
    refine (head2_any _).mono ?_
    rintro r w1 ⟨rfl, hb1⟩
    replace q0 := cell_later hb1 q0
    replace q1 := cell_later hb1 q1
    replace q2 := cell_later hb1 q2
    replace q3 := cell_later hb1 q3
    replace q4 := cell_later hb1 q4
    go_wp2_with fail
    refine (Hp.out _).mono ?_
    rintro r w2 ⟨rfl, hb2⟩
    replace q0 := cell_later hb2 q0
    replace q1 := cell_later hb2 q1
    replace q2 := cell_later hb2 q2
    replace q3 := cell_later hb2 q3
    replace q4 := cell_later hb2 q4
    go_wp2_with fail
    refine (lawright_any _ _ _ _ _ _).mono ?_
    rintro r w3 ⟨rfl, hb3⟩
    replace q0 := cell_later hb3 q0
    replace q1 := cell_later hb3 q1
    replace q2 := cell_later hb3 q2
    replace q3 := cell_later hb3 q3
    replace q4 := cell_later hb3 q4
    go_wp2_with fail
    refine wp_region_seq ((0, true) :: (1, false) :: (2, true) :: (3, true) :: (4, true) :: (5, true) :: (6, true) :: (7, true) :: (8, true) :: (10, true) :: (9, false) :: (11, true) :: (12, true) :: (13, true) :: []) (by kernel_rfl) (by kernel_rfl) (by kernel_rfl) (by decide) (fun _ _ _ _ _ h => h) (fun hHeld => ?_)
    repeat (first
      | (refine seq_take (v := ?_) rfl ?_ ?_ ?_; rotate_left 1; rfl; (focus (intro wS hSw; have hk := below_rule hSw; go_simp; first | done | with_reducible rfl)); (try simp only [Act.put, List.setIfInBounds_toArray, List.set_cons_zero, List.set_cons_succ]))
      | (refine seq_skip rfl ?_ ?_; rfl; (try simp only [Act.put, List.setIfInBounds_toArray, List.set_cons_zero, List.set_cons_succ]))
      | (refine seq_run rfl (fun K hK => ?_); go_simp; (try (first | (go_at_call 26; refine (wright_any _ _ _ _ _ _).mono ?_; rintro e w' ⟨rfl, hb'⟩) | (go_at_call 27; refine (Hu.out _).mono ?_; rintro e w' ⟨rfl, hb'⟩))); (try go_wp2_with fail); refine hK.out _ _ ?_ ?_; (focus (first | exact below_step hHeld hb' | exact below_new hHeld _ | exact hHeld)); (try clear hb'); clear hHeld hK K; intro hHeld; (try simp only [Act.put, List.setIfInBounds_toArray, List.set_cons_zero, List.set_cons_succ])))
    first | refine seq_done ?_ | skip
    go_wp2
    go_ret
    exact ⟨rfl, below_step (below_step (below_step (below_step (below_new (Below.refl _ _) _) hb1) hb2) hb3) hHeld⟩
  · have Hp := Lib.hid (fun W => pack_wrong s e g lo hi W hr)
    go_enter Try.func10, Try.ntmps10
    go_wp2_with fail
    refine (head2_any _).mono ?_
    rintro r w1 ⟨rfl, hb1⟩
    replace q0 := cell_later hb1 q0
    replace q1 := cell_later hb1 q1
    replace q2 := cell_later hb1 q2
    replace q3 := cell_later hb1 q3
    replace q4 := cell_later hb1 q4
    go_wp2_with fail
    refine (Hp.out _).mono ?_
    rintro r w2 ⟨rfl, hb2⟩
    replace q0 := cell_later hb2 q0
    replace q1 := cell_later hb2 q1
    replace q2 := cell_later hb2 q2
    replace q3 := cell_later hb2 q3
    replace q4 := cell_later hb2 q4
    go_wp2_with fail
    refine (lawright_any _ _ _ _ _ _).mono ?_
    rintro r w3 ⟨rfl, hb3⟩
    replace q0 := cell_later hb3 q0
    replace q1 := cell_later hb3 q1
    replace q2 := cell_later hb3 q2
    replace q3 := cell_later hb3 q3
    replace q4 := cell_later hb3 q4
    go_wp2_with fail
    refine (wright_any _ _ _ _ _ _).mono ?_
    rintro r w4 ⟨rfl, hb4⟩
    go_wp2_with fail
    go_ret
    exact ⟨rfl, below_step (below_step (below_step (below_step (below_new (Below.refl _ _) _) hb1) hb2) hb3) hb4⟩

end Go.Proofs.Ytlhacbhdajjkhaa
