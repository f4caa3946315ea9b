/-
  LayOwners answers true for every layout and place, and leaves all memory that was there as it was. No condition.
-/
import Derived.Test.YteokinaneilgjaaWalkLayFits
namespace Go.Proofs.Yteokinaneilgjaa
open Go.RowKit
set_option linter.unusedVariables false

theorem cowner_k (t s so d n i k : Int) (w : World) (h : Lay t s n) (i0 : 0 ≤ i) (i1 : i < n) (hq : i / s = k) :
    Calls Try.prog 38 #[cf t s so d, i64 i] w fun r w' => r = .returned (i64 k) ∧ Below w.heap.size w w' := by
  subst hq
  exact cowner_in t s so d n i w h i0 i1

theorem Lay.part {t s n : Int} (h : Lay t s n) (k : Nat) (hk : (k : Int) < t) : 0 ≤ (k : Int) * s ∧ (k : Int) * s + s ≤ n ∧ ((k : Int) * s) / s = k ∧ ((k : Int) * s + s - 1) / s = k := by
  have hs := h.s1
  have h0 : 0 ≤ (k : Int) * s := Int.mul_nonneg (by omega) (by omega)
  have h1 : ((k : Int) + 1) * s ≤ t * s := Int.mul_le_mul_of_nonneg_right (by omega) (by omega)
  rw [h.eq, Int.add_mul, Int.one_mul] at h1
  refine ⟨h0, h1, Int.mul_ediv_cancel _ (by omega), ?_⟩
  rw [show (k : Int) * s + s - 1 = (s - 1) + k * s by omega, Int.add_mul_ediv_right _ _ (by omega), Int.ediv_eq_zero_of_lt (by omega) (by omega)]
  omega

theorem Lay.place {t s n : Int} (h : Lay t s n) (i : Int) (i0 : 0 ≤ i) (i1 : i < n) : 0 ≤ i / s ∧ i / s < t ∧ 0 ≤ i / s * s ∧ i / s * s ≤ i ∧ i < (i / s + 1) * s ∧ (i / s + 1) * s ≤ n := by
  have hs := h.s1
  have a := Int.mul_ediv_add_emod i s
  have b := Int.emod_nonneg i (show s ≠ 0 by omega)
  have c := Int.emod_lt_of_pos i (show 0 < s by omega)
  have q0 : 0 ≤ i / s := Int.ediv_nonneg i0 (by omega)
  have q1 : i / s < t := Int.ediv_lt_of_lt_mul (by omega) (by rw [h.eq]; exact i1)
  have q2 : (i / s + 1) * s ≤ t * s := Int.mul_le_mul_of_nonneg_right (by omega) (by omega)
  rw [h.eq] at q2
  have q3 : 0 ≤ i / s * s := Int.mul_nonneg q0 (by omega)
  rw [Int.mul_comm] at a
  refine ⟨q0, q1, q3, by omega, by rw [Int.add_mul, Int.one_mul]; omega, q2⟩

set_option maxHeartbeats 4000000 in
theorem walk_LayOwners (t s so d x : Int) (w : World) (w0_0 : (Lit.int .i64 t).wf = true) (w0_1 : (Lit.int .i64 s).wf = true) (w0_2 : (Lit.int .i64 so).wf = true) (w0_3 : (Lit.int .i64 d).wf = true) (w1 : (Lit.int .i64 x).wf = true) :
    Calls Try.prog 13 #[.agg #[.int .i64 t, .int .i64 s, .int .i64 so, .int .i64 d], .int .i64 x] w fun e w' => e = .returned (.bool true) ∧ Below w.heap.size w w' := by
  clear w0_0 w0_1 w0_2 w0_3 w1
  rcases Bool.eq_false_or_eq_true (rightC t s so d) with hr | hr
  · obtain ⟨n, hl⟩ : ∃ n, Lay t s n := ⟨_, lay_of_right hr⟩
    have hn1 := hl.n1; have hn2 := hl.n2; have ht1 := hl.t1; have ht2 := hl.t2; have hs1 := hl.s1; have hs2 := hl.s2
    have hw := hl.wrap
    have Hw := Lib.hid hw
    clear hw
    go_enter Try.func13, Try.ntmps13
    go_wp2_with fail
    refine (head4_any _).mono ?_
    rintro e w1 ⟨rfl, hb1⟩
    have hk1 := below_rule hb1
    go_wp2_with fail
    refine (cright_any _ _ _ _ _).mono ?_
    rintro e w2 ⟨rfl, hb2⟩
    rw [hr]
    have hB0 := below_step hb1 hb2
    clear hb1 hb2 hk1
    have hk := below_rule hB0
    go_wp2_with fail
    rw [Hw.out]
    go_loopw [6] (fun i wr => ∃ k : Nat, (k : Int) ≤ t ∧ i = .int .i64 k ∧ Below (w.alloc (.cells #[.int .i64 t, .int .i64 s, .int .i64 so, .int .i64 d] 55)).heap.size (w.alloc (.cells #[.int .i64 t, .int .i64 s, .int .i64 so, .int .i64 d] 55)) wr) (fun i _ => (t - intOf i).toNat)
    case atStart => exact ⟨0, by omega, rfl, hB0⟩
    case round =>
      clear hB0 hk
      obtain ⟨k, hk0, rfl, hB⟩ := hrel
      have hk := below_rule hB
      rcases Int.lt_or_le (k : Int) t with hlt | hge
      · obtain ⟨p1, p2, p3, p4⟩ := hl.part k hlt
        obtain ⟨m, hm⟩ : ∃ m, m = (k : Int) * s := ⟨_, rfl⟩
        rw [← hm] at p1 p2 p3 p4
        have hw1 : wrap64 ((k : Int) * s) = m := by rw [← hm]; unfold wrap64; omega
        have Hm := Lib.hid hm
        have P3 := Lib.hid p3
        have P4 := Lib.hid p4
        clear hm p3 p4
        go_wp2_with (first | (go_at_call 37; refine (cfirst_any _ _ _ _ n _ m _ hl (by omega) (by omega) Hm.out.symm (by omega) (by omega)).mono ?_; rintro e w' ⟨rfl, hb'⟩; (first | replace hB := below_step hB hb' | replace hB := below_step (below_new hB _) hb'); clear hb'; (try clear hk); have hk := below_rule hB) | (go_at_call 38; refine (cowner_k _ _ _ _ n _ k _ hl (by omega) (by omega) (by first | exact P3.out | exact P4.out)).mono ?_; rintro e w' ⟨rfl, hb'⟩; (first | replace hB := below_step hB hb' | replace hB := below_step (below_new hB _) hb'); clear hb'; (try clear hk); have hk := below_rule hB))
        go_roundw
        case rel => exact ⟨k + 1, by omega, by go_num, hB⟩
        case measure => simp [intOf]; omega
      · by_cases hx : x < 0 ∨ n ≤ x
        · rcases hx with hx | hx
          all_goals
            go_wp2_with (first | (go_at_call 38; refine (cowner_out _ _ _ _ n _ _ hl (by omega)).mono ?_; rintro e w' ⟨rfl, hb'⟩; (first | replace hB := below_step hB hb' | replace hB := below_step (below_new hB _) hb'); clear hb'; (try clear hk); have hk := below_rule hB))
            go_ret
            exact ⟨rfl, below_step (below_new (Below.refl _ _) _) hB⟩
        · have x0 : 0 ≤ x := by omega
          have x1 : x < n := by omega
          obtain ⟨r0, r1, r2, r3, r4, r5⟩ := hl.place x x0 x1
          obtain ⟨q, hq⟩ : ∃ q, q = x / s := ⟨_, rfl⟩
          rw [← hq] at r0 r1 r2 r3 r4 r5
          obtain ⟨m1, hm1⟩ : ∃ m, m = q * s := ⟨_, rfl⟩
          obtain ⟨m2, hm2⟩ : ∃ m, m = (q + 1) * s := ⟨_, rfl⟩
          rw [← hm1] at r2 r3
          rw [← hm2] at r4 r5
          have hw1 : wrap64 (q * s) = m1 := by rw [← hm1]; unfold wrap64; omega
          have hw2 : wrap64 ((q + 1) * s) = m2 := by rw [← hm2]; unfold wrap64; omega
          have Hq := Lib.hid hq
          clear hq hm1 hm2 hx
          go_wp2_with (first | (go_at_call 38; refine (cowner_k _ _ _ _ n _ q _ hl (by omega) (by omega) Hq.out.symm).mono ?_; rintro e w' ⟨rfl, hb'⟩; (first | replace hB := below_step hB hb' | replace hB := below_step (below_new hB _) hb'); clear hb'; (try clear hk); have hk := below_rule hB))
          go_ret
          exact ⟨rfl, below_step (below_new (Below.refl _ _) _) hB⟩
  ·
    go_enter Try.func13, Try.ntmps13
    go_wp2_with fail
    refine (head4_any _).mono ?_
    rintro e w1 ⟨rfl, hb1⟩
    have hk1 := below_rule hb1
    go_wp2_with fail
    refine (cright_any _ _ _ _ _).mono ?_
    rintro e w2 ⟨rfl, hb2⟩
    rw [hr]
    go_wp2_with fail
    go_ret
    exact ⟨rfl, below_step (below_new (Below.refl _ _) _) (below_step hb1 hb2)⟩

end Go.Proofs.Yteokinaneilgjaa
