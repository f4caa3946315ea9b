/-
  Contracts of the functions of package lay: what each call answers, and that it leaves all memory that was there as it was. No condition but that the layout is a right one, where a number is reckoned of it.
-/
import Derived.Test.YtpbpkmmhdfahnaaProg
import Derived.Test.YtpbpkmmhdfahnaaBase
import Derived.Test.YtpbpkmmhdfahnaaRegion
import Derived.IntWalk
namespace Go.Proofs.Ytpbpkmmhdfahnaa
open Go.RowKit
set_option linter.unusedVariables false

abbrev cf (t s so d : Int) : Value := .agg #[.int .i64 t, .int .i64 s, .int .i64 so, .int .i64 d]

def rightC (t s so d : Int) : Bool := decide (1 ≤ t ∧ t ≤ 64 ∧ 1 ≤ s ∧ s ≤ 64 ∧ 0 ≤ so ∧ so ≤ 4 ∧ 0 ≤ d ∧ d ≤ 100)

/-- A layout's number of places, between its bounds. -/
structure Lay (t s n : Int) : Prop where
  eq : t * s = n
  t1 : 1 ≤ t
  t2 : t ≤ 64
  s1 : 1 ≤ s
  s2 : s ≤ 64
  n1 : t ≤ n
  n2 : n ≤ 4096
  n3 : s ≤ n

theorem Lay.mk' {t s : Int} (t1 : 1 ≤ t) (t2 : t ≤ 64) (s1 : 1 ≤ s) (s2 : s ≤ 64) : Lay t s (t * s) :=
  ⟨rfl, t1, t2, s1, s2, by have := Int.mul_le_mul_of_nonneg_left s1 (by omega : 0 ≤ t); omega, by have := Int.mul_le_mul t2 s2 (by omega) (by omega); omega, by have := Int.mul_le_mul_of_nonneg_right t1 (by omega : 0 ≤ s); omega⟩

theorem Lay.wrap {t s n : Int} (h : Lay t s n) : wrap64 (t * s) = n := by
  rw [h.eq]
  have := h.n1; have := h.n2; have := h.t1
  unfold wrap64
  omega

theorem ret_bool {a : Bool} (h : a = true) : Ending.returned (.bool a) = .returned (.bool true) := by rw [h]
theorem ret_i64 {a b : Int} (h : a = b) : Ending.returned (.int .i64 a) = .returned (.int .i64 b) := by rw [h]

set_option maxHeartbeats 1000000 in
theorem call_any (t s so d n : Int) (w : World) (h : Lay t s n) :
    Calls Try.prog 21 #[cf t s so d] w fun r w' => r = .returned (i64 n) ∧ Below w.heap.size w w' := by
  have hw := h.wrap
  have Hw := Lib.hid hw
  clear hw
  go_enter Try.func21, Try.ntmps21
  go_wp2
  go_ret
  exact ⟨ret_i64 Hw.out, below_new (Below.refl _ _) _⟩

set_option maxHeartbeats 1000000 in
theorem cword_any (t s so d i : Int) (w : World) :
    Calls Try.prog 26 #[cf t s so d, i64 i] w fun r w' => r = .returned (i64 i) ∧ Below w.heap.size w w' := by
  go_enter Try.func26, Try.ntmps26
  go_wp2
  go_ret
  first | exact ⟨rfl, below_new (Below.refl _ _) _⟩ | exact ⟨rfl, Below.refl _ _⟩

set_option maxHeartbeats 1000000 in
theorem cvalue_any (t s so d n i : Int) (w : World) (h : Lay t s n) (i0 : 0 ≤ i) (i1 : i ≤ n) :
    Calls Try.prog 25 #[cf t s so d, i64 i] w fun r w' => r = .returned (i64 (n + i)) ∧ Below w.heap.size w w' := by
  have hn1 := h.n1; have hn2 := h.n2; have ht1 := h.t1
  go_enter Try.func25, Try.ntmps25
  have hB := Below.refl (w.alloc (.cells #[.int .i64 t, .int .i64 s, .int .i64 so, .int .i64 d] 26)).heap.size (w.alloc (.cells #[.int .i64 t, .int .i64 s, .int .i64 so, .int .i64 d] 26))
  go_wp2_with (first | (go_at_call 21; refine (call_any _ _ _ _ n _ h).mono ?_; rintro e w' ⟨rfl, hb'⟩; (first | replace hB := below_step hB hb' | replace hB := below_step (below_new hB _) hb'); clear hb'; (try clear hk); have hk := below_rule hB))
  go_ret
  exact ⟨rfl, below_step (below_new (Below.refl _ _) _) hB⟩

set_option maxHeartbeats 1000000 in
theorem chazard_any (t s so d n i : Int) (w : World) (h : Lay t s n) (i0 : 0 ≤ i) (i1 : i ≤ t) :
    Calls Try.prog 27 #[cf t s so d, i64 i] w fun r w' => r = .returned (i64 (2 * n + i)) ∧ Below w.heap.size w w' := by
  have hn1 := h.n1; have hn2 := h.n2; have ht1 := h.t1; have ht2 := h.t2
  go_enter Try.func27, Try.ntmps27
  have hB := Below.refl (w.alloc (.cells #[.int .i64 t, .int .i64 s, .int .i64 so, .int .i64 d] 26)).heap.size (w.alloc (.cells #[.int .i64 t, .int .i64 s, .int .i64 so, .int .i64 d] 26))
  go_wp2_with (first | (go_at_call 21; refine (call_any _ _ _ _ n _ h).mono ?_; rintro e w' ⟨rfl, hb'⟩; (first | replace hB := below_step hB hb' | replace hB := below_step (below_new hB _) hb'); clear hb'; (try clear hk); have hk := below_rule hB))
  go_ret
  exact ⟨rfl, below_step (below_new (Below.refl _ _) _) hB⟩

set_option maxHeartbeats 1000000 in
theorem cnumber_any (t s so d n i : Int) (w : World) (h : Lay t s n) (i0 : 0 ≤ i) (i1 : i ≤ t) :
    Calls Try.prog 28 #[cf t s so d, i64 i] w fun r w' => r = .returned (i64 (2 * n + t + i)) ∧ Below w.heap.size w w' := by
  have hn1 := h.n1; have hn2 := h.n2; have ht1 := h.t1; have ht2 := h.t2
  go_enter Try.func28, Try.ntmps28
  go_wp2_with fail
  refine wp_region_seq ((0, true) :: (3, true) :: (4, true) :: (6, true) :: (1, false) :: (2, true) :: (5, true) :: (7, true) :: (8, true) :: []) (by kernel_rfl) (by kernel_rfl) (by kernel_rfl) (by decide) (fun _ _ _ _ _ h => h) (fun hHeld => ?_)
  repeat (first
    | (refine seq_take (v := ?_) rfl ?_ ?_ ?_; rotate_left 1; rfl; (focus (intro wS hSw; have hk := below_rule hSw; go_simp; first | done | with_reducible rfl)); (try simp only [Act.put, List.setIfInBounds_toArray, List.set_cons_zero, List.set_cons_succ]))
    | (refine seq_skip rfl ?_ ?_; rfl; (try simp only [Act.put, List.setIfInBounds_toArray, List.set_cons_zero, List.set_cons_succ]))
    | (refine seq_run rfl (fun K hK => ?_); go_simp; (try (first | (go_at_call 21; refine (call_any _ _ _ _ n _ h).mono ?_; rintro e w' ⟨rfl, hb'⟩))); (try go_wp2_with fail); refine hK.out _ _ ?_ ?_; (focus (first | exact below_step hHeld hb' | exact below_new hHeld _ | exact hHeld)); (try clear hb'); clear hHeld hK K; intro hHeld; (try simp only [Act.put, List.setIfInBounds_toArray, List.set_cons_zero, List.set_cons_succ])))
  first | refine seq_done ?_ | skip
  go_wp2
  go_ret
  exact ⟨ret_i64 (by rw [IntWalk.i64_in (2 * n) (by omega), IntWalk.i64_in (2 * n + t) (by omega), IntWalk.i64_in (2 * n + t + i) (by omega)]), below_step (below_new (Below.refl _ _) _) hHeld⟩

set_option maxHeartbeats 1000000 in
theorem ccells_any (t s so d n : Int) (w : World) (h : Lay t s n) :
    Calls Try.prog 19 #[cf t s so d] w fun r w' => r = .returned (i64 (2 * n + 2 * t)) ∧ Below w.heap.size w w' := by
  have hn1 := h.n1; have hn2 := h.n2; have ht1 := h.t1; have ht2 := h.t2
  go_enter Try.func19, Try.ntmps19
  go_wp2_with fail
  refine wp_region_seq ((0, true) :: (3, true) :: (4, true) :: (5, true) :: (1, false) :: (2, true) :: (6, true) :: (7, true) :: []) (by kernel_rfl) (by kernel_rfl) (by kernel_rfl) (by decide) (fun _ _ _ _ _ h => h) (fun hHeld => ?_)
  repeat (first
    | (refine seq_take (v := ?_) rfl ?_ ?_ ?_; rotate_left 1; rfl; (focus (intro wS hSw; have hk := below_rule hSw; go_simp; first | done | with_reducible rfl)); (try simp only [Act.put, List.setIfInBounds_toArray, List.set_cons_zero, List.set_cons_succ]))
    | (refine seq_skip rfl ?_ ?_; rfl; (try simp only [Act.put, List.setIfInBounds_toArray, List.set_cons_zero, List.set_cons_succ]))
    | (refine seq_run rfl (fun K hK => ?_); go_simp; (try (first | (go_at_call 21; refine (call_any _ _ _ _ n _ h).mono ?_; rintro e w' ⟨rfl, hb'⟩))); (try go_wp2_with fail); refine hK.out _ _ ?_ ?_; (focus (first | exact below_step hHeld hb' | exact below_new hHeld _ | exact hHeld)); (try clear hb'); clear hHeld hK K; intro hHeld; (try simp only [Act.put, List.setIfInBounds_toArray, List.set_cons_zero, List.set_cons_succ])))
  first | refine seq_done ?_ | skip
  go_wp2
  go_ret
  exact ⟨ret_i64 (by rw [IntWalk.i64_in (2 * n) (by omega), IntWalk.i64_in (2 * t) (by omega), IntWalk.i64_in (2 * n + 2 * t) (by omega)]), below_step (below_new (Below.refl _ _) _) hHeld⟩

set_option maxHeartbeats 1000000 in
theorem cowner_in (t s so d n i : Int) (w : World) (h : Lay t s n) (i0 : 0 ≤ i) (i1 : i < n) :
    Calls Try.prog 29 #[cf t s so d, i64 i] w fun r w' => r = .returned (i64 (i / s)) ∧ Below w.heap.size w w' := by
  have hn1 := h.n1; have hn2 := h.n2; have ht1 := h.t1; have ht2 := h.t2; have hs1 := h.s1; have hs2 := h.s2
  have hs0 : (s == 0) = false := by simp; omega
  go_enter Try.func29, Try.ntmps29
  have hB := Below.refl (w.alloc (.cells #[.int .i64 t, .int .i64 s, .int .i64 so, .int .i64 d] 26)).heap.size (w.alloc (.cells #[.int .i64 t, .int .i64 s, .int .i64 so, .int .i64 d] 26))
  go_wp2_with (first | (go_at_call 21; refine (call_any _ _ _ _ n _ h).mono ?_; rintro e w' ⟨rfl, hb'⟩; (first | replace hB := below_step hB hb' | replace hB := below_step (below_new hB _) hb'); clear hb'; (try clear hk); have hk := below_rule hB))
  go_ret
  exact ⟨rfl, below_step (below_new (Below.refl _ _) _) hB⟩

set_option maxHeartbeats 1000000 in
theorem cowner_out (t s so d n i : Int) (w : World) (h : Lay t s n) (hi : i < 0 ∨ n ≤ i) :
    Calls Try.prog 29 #[cf t s so d, i64 i] w fun r w' => r = .returned (i64 (-1)) ∧ Below w.heap.size w w' := by
  have hn1 := h.n1; have hn2 := h.n2; have ht1 := h.t1; have ht2 := h.t2; have hs1 := h.s1; have hs2 := h.s2
  rcases hi with hi | hi
  all_goals
    go_enter Try.func29, Try.ntmps29
    have hB := Below.refl (w.alloc (.cells #[.int .i64 t, .int .i64 s, .int .i64 so, .int .i64 d] 26)).heap.size (w.alloc (.cells #[.int .i64 t, .int .i64 s, .int .i64 so, .int .i64 d] 26))
    go_wp2_with (first | (go_at_call 21; refine (call_any _ _ _ _ n _ h).mono ?_; rintro e w' ⟨rfl, hb'⟩; (first | replace hB := below_step hB hb' | replace hB := below_step (below_new hB _) hb'); clear hb'; (try clear hk); have hk := below_rule hB))
    go_ret
    exact ⟨rfl, below_step (below_new (Below.refl _ _) _) hB⟩

/-- What a cell is for: its kind k, and of which place or thread (x). -/
def KindC (t n c k x : Int) : Prop :=
  ((c < 0 ∨ 2 * n + 2 * t ≤ c) ∧ k = 0 ∧ x = 0) ∨ (0 ≤ c ∧ c < n ∧ k = 1 ∧ x = c) ∨ (n ≤ c ∧ c < 2 * n ∧ k = 2 ∧ x = c - n) ∨ (2 * n ≤ c ∧ c < 2 * n + t ∧ k = 3 ∧ x = c - 2 * n) ∨ (2 * n + t ≤ c ∧ c < 2 * n + 2 * t ∧ k = 4 ∧ x = c - (2 * n + t))

set_option maxHeartbeats 4000000 in
theorem ckind_any (t s so d n c k x : Int) (w : World) (h : Lay t s n) (hk : KindC t n c k x) :
    Calls Try.prog 14 #[cf t s so d, i64 c] w fun r w' => r = .returned (.tuple #[i64 k, i64 x]) ∧ Below w.heap.size w w' := by
  have hn1 := h.n1; have hn2 := h.n2; have ht1 := h.t1; have ht2 := h.t2
  rcases hk with ⟨hc | hc, rfl, rfl⟩ | ⟨c0, c1, rfl, rfl⟩ | ⟨c0, c1, rfl, rfl⟩ | ⟨c0, c1, rfl, rfl⟩ | ⟨c0, c1, rfl, rfl⟩
  all_goals
    go_enter Try.func14, Try.ntmps14
    have hB := Below.refl (w.alloc (.cells #[.int .i64 t, .int .i64 s, .int .i64 so, .int .i64 d] 26)).heap.size (w.alloc (.cells #[.int .i64 t, .int .i64 s, .int .i64 so, .int .i64 d] 26))
    go_wp2_with (first | (go_at_call 19; refine (ccells_any _ _ _ _ n _ h).mono ?_; rintro e w' ⟨rfl, hb'⟩; (first | replace hB := below_step hB hb' | replace hB := below_step (below_new hB _) hb'); clear hb'; (try clear hk); have hk := below_rule hB) | (go_at_call 25; refine (cvalue_any _ _ _ _ n _ _ h (by omega) (by omega)).mono ?_; rintro e w' ⟨rfl, hb'⟩; (first | replace hB := below_step hB hb' | replace hB := below_step (below_new hB _) hb'); clear hb'; (try clear hk); have hk := below_rule hB) | (go_at_call 27; refine (chazard_any _ _ _ _ n _ _ h (by omega) (by omega)).mono ?_; rintro e w' ⟨rfl, hb'⟩; (first | replace hB := below_step hB hb' | replace hB := below_step (below_new hB _) hb'); clear hb'; (try clear hk); have hk := below_rule hB) | (go_at_call 28; refine (cnumber_any _ _ _ _ n _ _ h (by omega) (by omega)).mono ?_; rintro e w' ⟨rfl, hb'⟩; (first | replace hB := below_step hB hb' | replace hB := below_step (below_new hB _) hb'); clear hb'; (try clear hk); have hk := below_rule hB) | (go_at_call 26; refine (cword_any _ _ _ _ _ _).mono ?_; rintro e w' ⟨rfl, hb'⟩; (first | replace hB := below_step hB hb' | replace hB := below_step (below_new hB _) hb'); clear hb'; (try clear hk); have hk := below_rule hB))
    go_ret2
    exact ⟨rfl, below_step (below_new (Below.refl _ _) _) hB⟩

theorem lay23 : Lay 2 3 6 := ⟨rfl, by omega, by omega, by omega, by omega, by omega, by omega, by omega⟩

end Go.Proofs.Ytpbpkmmhdfahnaa
