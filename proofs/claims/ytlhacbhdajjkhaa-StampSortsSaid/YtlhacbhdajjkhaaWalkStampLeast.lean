/-
  StampLeast answers true for every list of stamps, and leaves all memory that was there as it was. No condition.
-/
import Derived.Test.YtlhacbhdajjkhaaStampCalls2
import Derived.Test.YtlhacbhdajjkhaaRegion
import Derived.Test.YtlhacbhdajjkhaaFlat
namespace Go.Proofs.Ytlhacbhdajjkhaa
open Go.RowKit

/-- A slice of stamps that came in, as two functions of the index. -/
theorem rows_stamps {w : World} {b off len cap : Nat} (h : IsRows w [.inl .i64, .inl .i64] (some ⟨b, off, none⟩) len cap) :
    ∃ L H : Nat → Int, ∀ i, i < len → w.cell? ⟨b, off + i * 2, none⟩ = some (i64 (L i)) ∧ w.cell? ⟨b, off + i * 2 + 1, none⟩ = some (i64 (H i)) := by
  have h1 : ∀ i, ∃ p : Int × Int, i < len → w.cell? ⟨b, off + i * 2, none⟩ = some (i64 p.1) ∧ w.cell? ⟨b, off + i * 2 + 1, none⟩ = some (i64 p.2) := fun i => by
    by_cases hi : i < len
    · obtain ⟨cs, hf, hc⟩ := h.2.2.2.2 b off rfl i hi
      obtain ⟨c0, l0, rfl, g0, hf⟩ := fit_cons hf
      obtain ⟨c1, l1, rfl, g1, hf⟩ := fit_cons hf
      obtain ⟨x, rfl, _⟩ := g0
      obtain ⟨y, rfl, _⟩ := g1
      exact ⟨(x, y), fun _ => ⟨hc 0 _ rfl, hc 1 _ rfl⟩⟩
    · exact ⟨(0, 0), fun h => absurd h hi⟩
  exact ⟨fun i => (Classical.choose (h1 i)).1, fun i => (Classical.choose (h1 i)).2, fun i hi => Classical.choose_spec (h1 i) hi⟩

theorem least_spec (L H : Nat → Int) : ∀ n, ∀ k, k < n → 0 ≤ cmpS (L k) (H k) (L (leastF L H n).toNat) (H (leastF L H n).toNat) ∧ (cmpS (L k) (H k) (L (leastF L H n).toNat) (H (leastF L H n).toNat) = 0 → leastF L H n ≤ k)
  | 0, k, h => absurd h (by omega)
  | n + 1, k, h => by
    have ih := least_spec L H n
    have hr := leastF_range L H n
    rw [leastF_step]
    generalize hm : leastF L H n = m at *
    by_cases h1 : m < 0 ∨ cmpS (L n) (H n) (L m.toNat) (H m.toNat) < 0
    · rw [if_pos h1]
      simp only [Int.toNat_natCast]
      by_cases hk : k = n
      · subst hk
        rw [cmpS_same]
        omega
      · have hkn : k < n := by omega
        have h2 := (ih k hkn).1
        rcases h1 with h1 | h1
        · omega
        · rw [cmpS_eq] at *
          revert h1 h2
          repeat' split
          all_goals omega
    · rw [if_neg h1]
      by_cases hk : k = n
      · subst hk
        exact ⟨by omega, fun _ => by omega⟩
      · exact ih k (by omega)

set_option maxHeartbeats 400000 in
theorem least_none (a : Option Addr) (cap : Nat) (w : World) :
    Calls Try.prog 22 #[.slice a 0 cap] w fun e w' => e = .returned (i64 (-1)) ∧ Below w.heap.size w w' := by
  go_enter Try.func22, Try.ntmps22
  go_wp2
  go_loop [3, 8] (fun l i => l = i64 (-1) ∧ i = .int .i64 0) (fun _ _ => 0)
  case atStart => exact ⟨rfl, rfl⟩
  case round =>
    obtain ⟨rfl, rfl⟩ := hrel
    go_wp2
    go_ret
    exact ⟨rfl, Below.refl _ _⟩

set_option maxHeartbeats 1000000 in
theorem walk_StampLeast (a0 : Option Addr) (len0 cap0 : Nat) (w : World) (w0 : IsRows w [.inl .i64, .inl .i64] a0 len0 cap0) :
    Calls Try.prog 6 #[.slice a0 len0 cap0] w fun e w' => e = .returned (.bool true) ∧ Below w.heap.size w w' := by
  by_cases hbig : 200 < len0
  · have hbig' : (200 : Int) < (len0 : Int) := by omega
    clear w0
    go_enter Try.func6, Try.ntmps6
    go_wp2_with fail
    refine (head1_any _).mono ?_
    rintro e w1 ⟨rfl, hb1⟩
    go_wp2_with fail
    go_ret
    exact ⟨rfl, hb1⟩
  · have hsm : (len0 : Int) ≤ 200 := by omega
    by_cases hz : len0 = 0
    · subst hz
      clear w0
      go_enter Try.func6, Try.ntmps6
      go_wp2_with fail
      refine (head1_any _).mono ?_
      rintro e w1 ⟨rfl, hb1⟩
      go_wp2_with fail
      refine (least_none _ _ _).mono ?_
      rintro e w2 ⟨rfl, hb2⟩
      go_wp2_with fail
      go_ret
      exact ⟨rfl, below_step hb1 hb2⟩
    · obtain ⟨b, off, rfl⟩ := w0.2.2.2.1 (by omega)
      obtain ⟨L, H, hc⟩ := rows_stamps w0
      clear w0
      have hnz : ((len0 : Int) == 0) = false := by simp; omega
      have hr := leastF_range L H len0
      have hs := Lib.hid (least_spec L H len0)
      obtain ⟨m, hm⟩ := Int.eq_ofNat_of_zero_le (hr.2.2 (by omega))
      have Hm := Lib.hid hm
      rw [hm] at hr
      have m0 : (0 : Int) ≤ (m : Int) := by omega
      have m1 : (m : Int) < (len0 : Int) := by omega
      have m2 : m < len0 := by omega
      have p0 : decide ((200 : Int) < (len0 : Int)) = false := decide_eq_false (by omega)
      have p1 : decide ((m : Int) < 0) = false := decide_eq_false (by omega)
      have p2 : decide (len0 ≤ m) = false := decide_eq_false (by omega)
      clear hr hm hz
      go_enter Try.func6, Try.ntmps6
      go_wp2_with fail
      refine (head1_any _).mono ?_
      rintro e w1 ⟨rfl, hb1⟩
      go_wp2_with fail
      refine (least_any L H b off len0 cap0 (by omega) w1 (fun i hi => ⟨cell_later hb1 (hc i hi).1, cell_later hb1 (hc i hi).2⟩)).mono ?_
      rintro e w2 ⟨rfl, hb2⟩
      rw [Hm.out]
      go_wp2_with fail
      go_loopw [29] (fun i wr => ∃ k : Nat, k ≤ len0 ∧ i = .int .i64 k ∧ Below w.heap.size w wr) (fun i _ => len0 - (intOf i).toNat)
      case atStart => exact ⟨0, by omega, rfl, below_step hb1 hb2⟩
      case round =>
        obtain ⟨k, hk, rfl, hb⟩ := hrel
        rcases Nat.lt_or_ge k len0 with h2 | h2
        · obtain ⟨q0, q1⟩ := hc k h2
          obtain ⟨q2, q3⟩ := hc m m2
          replace q0 := cell_later hb q0
          replace q1 := cell_later hb q1
          replace q2 := cell_later hb q2
          replace q3 := cell_later hb q3
          have hs' := hs.out k h2
          rw [Hm.out] at hs'
          simp only [Int.toNat_natCast] at hs'
          obtain ⟨s1, s2⟩ := hs'
          have d1 : decide (cmpS (L k) (H k) (L m) (H m) < 0) = false := by simp; omega
          have hal := fun o => World.cell?_alloc_some wr ⟨b, off + m * 2, none⟩ o (by rw [q2]; rfl)
          have hal' := fun o => World.cell?_alloc_some wr ⟨b, off + m * 2 + 1, none⟩ o (by rw [q3]; rfl)
          rcases Bool.eq_false_or_eq_true (cmpS (L k) (H k) (L m) (H m) == 0) with d2 | d2
          · have d3 : decide (k < m) = false := by
              have := s2 (beq_iff_eq.1 d2)
              simp; omega
            clear s1 s2
            go_wp2_with fail
            refine wp_region_seq ((0, true) :: (1, true) :: (2, true) :: (3, true) :: (4, true) :: (5, false) :: (6, true) :: []) (by kernel_rfl) (by kernel_rfl) (by kernel_rfl) (by decide) (fun _ _ _ _ _ h => h) (fun hHeld => ?_)
            repeat (first
              | (refine seq_take (v := ?_) rfl ?_ ?_ ?_; rotate_left 1; rfl; (focus (intro wS hSw; have hk := below_rule hSw; go_simp; first | done | with_reducible rfl)); (try simp only [Act.put, List.setIfInBounds_toArray, List.set_cons_zero, List.set_cons_succ]))
              | (refine seq_skip rfl ?_ ?_; rfl; (try simp only [Act.put, List.setIfInBounds_toArray, List.set_cons_zero, List.set_cons_succ]))
              | (refine seq_run rfl (fun K hK => ?_); go_simp; (try (first | (go_at_call 20; refine (lawcompare_any _ _ _ _ _).mono ?_; rintro e w' ⟨rfl, hb'⟩))); (try go_wp2_with fail); refine hK.out _ _ ?_ ?_; (focus (first | exact below_step hHeld hb' | exact below_new hHeld _ | exact hHeld)); (try clear hb'); clear hHeld hK K; intro hHeld; (try simp only [Act.put, List.setIfInBounds_toArray, List.set_cons_zero, List.set_cons_succ])))
            first | refine seq_done ?_ | skip
            go_wp2
            go_roundw
            case rel => exact ⟨k + 1, by omega, by go_num, below_step (below_new hb _) hHeld⟩
            case measure => simp [intOf]; omega
          · clear s1 s2
            go_wp2_with fail
            refine wp_region_seq ((0, true) :: (1, true) :: (2, true) :: (3, true) :: (4, true) :: (5, false) :: (6, true) :: []) (by kernel_rfl) (by kernel_rfl) (by kernel_rfl) (by decide) (fun _ _ _ _ _ h => h) (fun hHeld => ?_)
            repeat (first
              | (refine seq_take (v := ?_) rfl ?_ ?_ ?_; rotate_left 1; rfl; (focus (intro wS hSw; have hk := below_rule hSw; go_simp; first | done | with_reducible rfl)); (try simp only [Act.put, List.setIfInBounds_toArray, List.set_cons_zero, List.set_cons_succ]))
              | (refine seq_skip rfl ?_ ?_; rfl; (try simp only [Act.put, List.setIfInBounds_toArray, List.set_cons_zero, List.set_cons_succ]))
              | (refine seq_run rfl (fun K hK => ?_); go_simp; (try (first | (go_at_call 20; refine (lawcompare_any _ _ _ _ _).mono ?_; rintro e w' ⟨rfl, hb'⟩))); (try go_wp2_with fail); refine hK.out _ _ ?_ ?_; (focus (first | exact below_step hHeld hb' | exact below_new hHeld _ | exact hHeld)); (try clear hb'); clear hHeld hK K; intro hHeld; (try simp only [Act.put, List.setIfInBounds_toArray, List.set_cons_zero, List.set_cons_succ])))
            first | refine seq_done ?_ | skip
            go_wp2
            go_roundw
            case rel => exact ⟨k + 1, by omega, by go_num, below_step (below_new hb _) hHeld⟩
            case measure => simp [intOf]; omega
        · go_wp2
          go_ret
          exact ⟨rfl, hb⟩

end Go.Proofs.Ytlhacbhdajjkhaa
