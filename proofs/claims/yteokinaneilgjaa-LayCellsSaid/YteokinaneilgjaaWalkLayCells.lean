/-
  LayCells answers true for every layout, and leaves all memory that was there as it was. No condition.
-/
import Derived.Test.YteokinaneilgjaaWalkLayOwners
namespace Go.Proofs.Yteokinaneilgjaa
open Go.RowKit
set_option linter.unusedVariables false

theorem ret_at {a b : Int} (h : a = b) : Value.int .i64 a = Value.int .i64 b := by rw [h]

set_option maxRecDepth 100000 in
set_option maxHeartbeats 20000000 in
theorem walk_LayCells (t s so d : Int) (w : World) (w0_0 : (Lit.int .i64 t).wf = true) (w0_1 : (Lit.int .i64 s).wf = true) (w0_2 : (Lit.int .i64 so).wf = true) (w0_3 : (Lit.int .i64 d).wf = true) :
    Calls Try.prog 12 #[.agg #[.int .i64 t, .int .i64 s, .int .i64 so, .int .i64 d]] w fun e w' => e = .returned (.bool true) ∧ Below w.heap.size w w' := by
  clear w0_0 w0_1 w0_2 w0_3
  by_cases hbig : rightC t s so d = false ∨ (rightC t s so d = true ∧ 8 < t) ∨ (rightC t s so d = true ∧ t ≤ 8 ∧ 8 < s)
  · rcases hbig with hr | ⟨hr, h8⟩ | ⟨hr, h8, h9⟩
    all_goals
      go_enter Try.func12, Try.ntmps12
      go_wp2_with fail
      refine (head4_any _).mono ?_
      rintro e w1 ⟨rfl, hb1⟩
      have hk1 := below_rule hb1
      go_wp2_with fail
      refine (cright_any _ _ _ _ _).mono ?_
      rintro e w2 ⟨rfl, hb2⟩
      rw [hr]
      have hB := below_step hb1 hb2
      clear hb1 hb2 hk1
      have hk := below_rule hB
      go_wp2_with fail
      go_ret
      exact ⟨rfl, below_step (below_new (Below.refl _ _) _) hB⟩
  · have hr : rightC t s so d = true := by
      rcases Bool.eq_false_or_eq_true (rightC t s so d) with h | h
      · exact h
      · exact absurd (.inl h) hbig
    obtain ⟨n, hl⟩ : ∃ n, Lay t s n := ⟨_, lay_of_right hr⟩
    have ht8 : t ≤ 8 := by
      rcases Int.lt_or_le 8 t with h | h
      · exact absurd (.inr (.inl ⟨hr, h⟩)) hbig
      · exact h
    have hs8 : s ≤ 8 := by
      rcases Int.lt_or_le 8 s with h | h
      · exact absurd (.inr (.inr ⟨hr, ht8, h⟩)) hbig
      · exact h
    clear hbig
    have hn1 := hl.n1; have hn2 := hl.n2; have ht1 := hl.t1; have ht2 := hl.t2; have hs1 := hl.s1; have hs2 := hl.s2
    have hw := hl.wrap
    have Hw := Lib.hid hw
    clear hw
    go_enter Try.func12, Try.ntmps12
    go_wp2_with fail
    refine (head4_any _).mono ?_
    rintro e w1 ⟨rfl, hb1⟩
    have hk1 := below_rule hb1
    go_wp2_with fail
    refine (cright_any _ _ _ _ _).mono ?_
    rintro e w2 ⟨rfl, hb2⟩
    rw [hr]
    have hB := below_step hb1 hb2
    clear hb1 hb2 hk1
    have hk := below_rule hB
    go_wp2_with fail
    rw [Hw.out]
    go_loopw [4, 5] (fun a i wr => ∃ k : Nat, (k : Int) ≤ n ∧ i = .int .i64 k ∧ a = .int .i64 ((k : Int)) ∧ Below (w.alloc (.cells #[.int .i64 t, .int .i64 s, .int .i64 so, .int .i64 d] 55)).heap.size (w.alloc (.cells #[.int .i64 t, .int .i64 s, .int .i64 so, .int .i64 d] 55)) wr) (fun _ i _ => (n - intOf i).toNat)
    case atStart => exact ⟨0, by omega, rfl, ret_at (by omega), hB⟩
    case round =>
      clear hB hk
      obtain ⟨k, hk0, rfl, rfl, hB⟩ := hrel
      have hk := below_rule hB
      rcases Int.lt_or_le (k : Int) (n) with hlt | hge
      ·
        go_wp2_with (first | (go_at_call 30; refine (ckind_any _ _ _ _ n _ 1 (k : Int) _ hl (.inr (.inl ⟨by omega, by omega, rfl, by omega⟩))).mono ?_; rintro e w' ⟨rfl, hb'⟩; (first | replace hB := below_step hB hb' | replace hB := below_step (below_new hB _) hb'); clear hb'; (try clear hk); have hk := below_rule hB) | (go_at_call 31; refine (cword_any _ _ _ _ _ _).mono ?_; rintro e w' ⟨rfl, hb'⟩; (first | replace hB := below_step hB hb' | replace hB := below_step (below_new hB _) hb'); clear hb'; (try clear hk); have hk := below_rule hB))
        go_roundw
        case rel => exact ⟨k + 1, by omega, by go_num, ret_at (by omega), hB⟩
        case measure => simp [intOf]; omega
      ·
        go_wp2_with fail
        go_loopw [4, 8] (fun a i wr => ∃ k : Nat, (k : Int) ≤ n ∧ i = .int .i64 k ∧ a = .int .i64 (n + (k : Int)) ∧ Below (w.alloc (.cells #[.int .i64 t, .int .i64 s, .int .i64 so, .int .i64 d] 55)).heap.size (w.alloc (.cells #[.int .i64 t, .int .i64 s, .int .i64 so, .int .i64 d] 55)) wr) (fun _ i _ => (n - intOf i).toNat)
        case atStart => exact ⟨0, by omega, rfl, ret_at (by omega), hB⟩
        case round =>
          clear hB hk
          obtain ⟨k, hk0, rfl, rfl, hB⟩ := hrel
          have hk := below_rule hB
          rcases Int.lt_or_le (k : Int) (n) with hlt | hge
          ·
            go_wp2_with (first | (go_at_call 30; refine (ckind_any _ _ _ _ n _ 2 (k : Int) _ hl (.inr (.inr (.inl ⟨by omega, by omega, rfl, by omega⟩)))).mono ?_; rintro e w' ⟨rfl, hb'⟩; (first | replace hB := below_step hB hb' | replace hB := below_step (below_new hB _) hb'); clear hb'; (try clear hk); have hk := below_rule hB) | (go_at_call 32; refine (cvalue_any _ _ _ _ n _ _ hl (by omega) (by omega)).mono ?_; rintro e w' ⟨rfl, hb'⟩; (first | replace hB := below_step hB hb' | replace hB := below_step (below_new hB _) hb'); clear hb'; (try clear hk); have hk := below_rule hB))
            go_roundw
            case rel => exact ⟨k + 1, by omega, by go_num, ret_at (by omega), hB⟩
            case measure => simp [intOf]; omega
          ·
            go_wp2_with fail
            go_loopw [4, 11] (fun a i wr => ∃ k : Nat, (k : Int) ≤ t ∧ i = .int .i64 k ∧ a = .int .i64 (2 * n + (k : Int)) ∧ Below (w.alloc (.cells #[.int .i64 t, .int .i64 s, .int .i64 so, .int .i64 d] 55)).heap.size (w.alloc (.cells #[.int .i64 t, .int .i64 s, .int .i64 so, .int .i64 d] 55)) wr) (fun _ i _ => (t - intOf i).toNat)
            case atStart => exact ⟨0, by omega, rfl, ret_at (by omega), hB⟩
            case round =>
              clear hB hk
              obtain ⟨k, hk0, rfl, rfl, hB⟩ := hrel
              have hk := below_rule hB
              rcases Int.lt_or_le (k : Int) (t) with hlt | hge
              ·
                go_wp2_with (first | (go_at_call 30; refine (ckind_any _ _ _ _ n _ 3 (k : Int) _ hl (.inr (.inr (.inr (.inl ⟨by omega, by omega, rfl, by omega⟩))))).mono ?_; rintro e w' ⟨rfl, hb'⟩; (first | replace hB := below_step hB hb' | replace hB := below_step (below_new hB _) hb'); clear hb'; (try clear hk); have hk := below_rule hB) | (go_at_call 33; refine (chazard_any _ _ _ _ n _ _ hl (by omega) (by omega)).mono ?_; rintro e w' ⟨rfl, hb'⟩; (first | replace hB := below_step hB hb' | replace hB := below_step (below_new hB _) hb'); clear hb'; (try clear hk); have hk := below_rule hB))
                go_roundw
                case rel => exact ⟨k + 1, by omega, by go_num, ret_at (by omega), hB⟩
                case measure => simp [intOf]; omega
              ·
                go_wp2_with fail
                go_loopw [4, 14] (fun a i wr => ∃ k : Nat, (k : Int) ≤ t ∧ i = .int .i64 k ∧ a = .int .i64 (2 * n + t + (k : Int)) ∧ Below (w.alloc (.cells #[.int .i64 t, .int .i64 s, .int .i64 so, .int .i64 d] 55)).heap.size (w.alloc (.cells #[.int .i64 t, .int .i64 s, .int .i64 so, .int .i64 d] 55)) wr) (fun _ i _ => (t - intOf i).toNat)
                case atStart => exact ⟨0, by omega, rfl, ret_at (by omega), hB⟩
                case round =>
                  clear hB hk
                  obtain ⟨k, hk0, rfl, rfl, hB⟩ := hrel
                  have hk := below_rule hB
                  rcases Int.lt_or_le (k : Int) (t) with hlt | hge
                  ·
                    go_wp2_with (first | (go_at_call 30; refine (ckind_any _ _ _ _ n _ 4 (k : Int) _ hl (.inr (.inr (.inr (.inr ⟨by omega, by omega, rfl, by omega⟩))))).mono ?_; rintro e w' ⟨rfl, hb'⟩; (first | replace hB := below_step hB hb' | replace hB := below_step (below_new hB _) hb'); clear hb'; (try clear hk); have hk := below_rule hB) | (go_at_call 34; refine (cnumber_any _ _ _ _ n _ _ hl (by omega) (by omega)).mono ?_; rintro e w' ⟨rfl, hb'⟩; (first | replace hB := below_step hB hb' | replace hB := below_step (below_new hB _) hb'); clear hb'; (try clear hk); have hk := below_rule hB))
                    go_roundw
                    case rel => exact ⟨k + 1, by omega, by go_num, ret_at (by omega), hB⟩
                    case measure => simp [intOf]; omega
                  ·
                    have hke : (k : Int) = t := by omega
                    go_wp2_with (first | (go_at_call 30; refine (ckind_any _ _ _ _ n _ 0 0 _ hl (.inl ⟨by omega, rfl, rfl⟩)).mono ?_; rintro e w' ⟨rfl, hb'⟩; (first | replace hB := below_step hB hb' | replace hB := below_step (below_new hB _) hb'); clear hb'; (try clear hk); have hk := below_rule hB) | (go_at_call 35; refine (ccells_any _ _ _ _ n _ hl).mono ?_; rintro e w' ⟨rfl, hb'⟩; (first | replace hB := below_step hB hb' | replace hB := below_step (below_new hB _) hb'); clear hb'; (try clear hk); have hk := below_rule hB) | (go_at_call 36; refine (call_any _ _ _ _ n _ hl).mono ?_; rintro e w' ⟨rfl, hb'⟩; (first | replace hB := below_step hB hb' | replace hB := below_step (below_new hB _) hb'); clear hb'; (try clear hk); have hk := below_rule hB))
                    go_ret
                    exact ⟨rfl, below_step (below_new (Below.refl _ _) _) hB⟩

end Go.Proofs.Yteokinaneilgjaa
