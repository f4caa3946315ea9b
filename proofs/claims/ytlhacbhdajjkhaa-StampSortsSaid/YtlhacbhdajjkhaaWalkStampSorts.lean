/-
  StampSorts answers true for every list of stamps, and leaves all memory that was there as it was. No condition.
-/
import Derived.Test.YtlhacbhdajjkhaaSortsParts
namespace Go.Proofs.Ytlhacbhdajjkhaa
open Go.RowKit

set_option maxHeartbeats 4000000 in
theorem walk_StampSorts (a0 : Option Addr) (len0 cap0 : Nat) (w : World) (w0 : IsRows w [.inl .i64, .inl .i64] a0 len0 cap0) :
    Calls Try.prog 8 #[.slice a0 len0 cap0] w fun e w' => e = .returned (.bool true) ∧ Below w.heap.size w w' := by
  by_cases hbig : 60 < len0
  · have hbig' : (60 : Int) < (len0 : Int) := by omega
    clear w0
    go_enter Try.func8, Try.ntmps8
    go_wp2_with fail
    refine (head1_any _).mono ?_
    rintro e w1 ⟨rfl, hb1⟩
    go_wp2_with fail
    go_ret
    exact ⟨rfl, hb1⟩
  · have p0 : decide ((60 : Int) < (len0 : Int)) = false := decide_eq_false (by omega)
    have hA : a0 = none → len0 = 0 := fun h => (w0.2.2.1 h).1
    obtain ⟨X0, hX0, hsrc⟩ := list_stamps w0
    obtain ⟨i0, hi0, hz0, hz1, hz2⟩ := info_parts info_stamp
    have hmax : 0 + len0 ≤ maxLen := by unfold maxLen; omega
    go_enter Try.func8, Try.ntmps8
    go_wp2_with fail
    refine (head1_any _).mono ?_
    rintro e w1 ⟨rfl, hb1⟩
    have hb1' : Below w.heap.size w (w1.alloc (.cells #[] 23)) := below_new hb1 _
    have ho1 : (w1.alloc (.cells #[] 23)).ownsRow w.heap.size 23 2 (.slice (some ⟨w1.heap.size, 0, none⟩) 0 0) 0 [] := World.ownsRow_made w1 #[] 0 hb1.size (by unfold maxLen; omega) rfl
    have hs1 := hb1'.size
    have hsrc1 := fun ad (h : a0 = some ad) j u hj => cell_later hb1' (hsrc ad h j u hj)
    go_wp2_with (at_builtin; refine wpList_append_src rfl _ _ 31 rfl w.heap.size 23 i0 (.agg #[.int .i64 0, .int .i64 0]) 2 16 Try.underlying31 hi0 hz0 hz1 hz2 rfl (by decide) _ _ _ rfl ho1 a0 len0 cap0 (flatS X0) rfl hA (by rw [flatS_length, hX0]) hsrc1 (flatS_one X0) hmax (by omega) hs1 ?_; intro v' w2 hown' hgrow)
    have hS0 : Sorts w w2.heap.size (w2.alloc (.cells #[i64 0, i64 0] 23)) 0 0 v' X0 := by
      have hz := hgrow.size
      simp only [Nat.zero_add, List.nil_append] at hown'
      rw [← hX0] at hown'
      exact ⟨World.cell?_alloc_new w2 #[i64 0, i64 0] 23 0, World.cell?_alloc_new w2 #[i64 0, i64 0] 23 1, fun o => World.frozen?_alloc_at _ _ _ _ rfl, hown'.alloc _, fun e => by have := (hown'.lt _ e).2; omega, by omega, by simp, below_new (hb1'.grown hgrow hs1 (fun k hk => (ho1.lt k hk).1)) _⟩
    clear hown' hgrow hsrc1 ho1 hb1' hs1 hsrc hb1
    generalize w2.heap.size = g at *
    go_loopw [3, 18] (fun v i wr => ∃ (n : Nat) (c d : Int) (X : List (Int × Int)), n ≤ len0 ∧ i = .int .i64 n ∧ Hid (X.length + n = len0) ∧ Sorts w g wr c d v X ∧ Hid (0 < n → ∀ p ∈ X, cmpS c d p.1 p.2 ≤ 0)) (fun _ i _ => len0 - (intOf i).toNat)
    case atStart => exact ⟨0, 0, 0, X0, by omega, rfl, by show X0.length + 0 = len0; omega, hS0, fun h => absurd h (by omega)⟩
    case round =>
      obtain ⟨n, c, d, X, hn, rfl, hX, hS, hC⟩ := hrel
      rcases Nat.lt_or_ge n len0 with hlt | hge
      · have hXl := hX.out
        have hpos : 0 < X.length := by omega
        obtain ⟨gb, cap, rfl, hcap, hcm, hcells⟩ := ownS_cells hS.own hpos
        have hr := leastF_range (fun i => (X.getD i (0, 0)).1) (fun i => (X.getD i (0, 0)).2) X.length
        have hs := Lib.hid (least_spec (fun i => (X.getD i (0, 0)).1) (fun i => (X.getD i (0, 0)).2) X.length)
        obtain ⟨m, hm⟩ := Int.eq_ofNat_of_zero_le (hr.2.2 hpos)
        rw [hm] at hr
        have Hm := Lib.hid hm
        have m2 : m < X.length := by omega
        have m0 : (0 : Int) ≤ (m : Int) := by omega
        have m1 : (m : Int) < (X.length : Int) := by omega
        have p1 : decide ((m : Int) < 0) = false := decide_eq_false (by omega)
        have p2 : decide (X.length ≤ m) = false := decide_eq_false (by omega)
        have hq := hcells m m2
        obtain ⟨⟨x, y⟩, hxy⟩ : ∃ p, X.getD m (0, 0) = p := ⟨_, rfl⟩
        rw [hxy] at hq
        have Hxy := Lib.hid hxy
        obtain ⟨q0, q1⟩ := hq
        rw [Nat.zero_add] at q0 q1
        have hl60 : X.length ≤ 60 := by omega
        have m3 : (m : Int) + 1 ≤ (cap : Int) := by omega
        have m4 : (m : Int) ≤ (cap : Int) := by omega
        have m5 : m ≤ cap := by omega
        have m6 : m + 1 ≤ X.length := by omega
        have p3 : 0 < n → decide (0 < cmpS c d x y) = false := fun h => by
          have hmem : (x, y) ∈ X := by
            rw [← Hxy.out, List.getD_eq_getElem?_getD, List.getElem?_eq_getElem m2]
            exact List.getElem_mem m2
          have := hC.out h _ hmem
          exact decide_eq_false (by simp at this; omega)
        have hcells' := Lib.hid hcells
        clear hr hm hxy hcells hXl
        have hC' := sorts_least X m Hm.out x y Hxy.out
        have HC' := Lib.hid hC'
        clear hC'
        have g01 : (decide ((0 : Int) < (n : Int)) = false ∧ decide (0 < n) = false) ∨ (decide ((0 : Int) < (n : Int)) = true ∧ decide (0 < n) = true ∧ decide (0 < cmpS c d x y) = false) := by
          by_cases hn0 : 0 < n
          · exact .inr ⟨decide_eq_true (by omega), decide_eq_true hn0, p3 hn0⟩
          · exact .inl ⟨decide_eq_false (by omega), decide_eq_false hn0⟩
        clear p3 hs
        rcases g01 with ⟨g0, g1⟩ | ⟨g0, g1, g2⟩
        all_goals
          go_wp2_with fail
          refine (least_any (fun i => (X.getD i (0, 0)).1) (fun i => (X.getD i (0, 0)).2) gb 0 X.length cap (by omega) wr (fun i hi => hcells'.out i hi)).mono ?_
          rintro r w4 ⟨rfl, hb4⟩
          rw [Hm.out]
          replace hS := hS.later hb4
          replace q0 := cell_later hb4 q0
          replace q1 := cell_later hb4 q1
          have c0 := hS.c0
          have c1 := hS.c1
          go_wp2_with fail
          refine wp_region_seq ((0, true) :: (1, true) :: (2, true) :: (3, true) :: (4, true) :: (5, true) :: (6, true) :: (7, true) :: (8, true) :: (9, true) :: (10, true) :: (11, true) :: (12, true) :: (13, true) :: (14, true) :: (15, true) :: (16, true) :: (17, false) :: (18, true) :: (19, true) :: (20, true) :: []) (by kernel_rfl) (by kernel_rfl) (by kernel_rfl) (by decide) (fun _ _ _ _ _ h => h) (fun hHeld => ?_)
          repeat (first
            | (refine seq_take (v := ?_) rfl ?_ ?_ ?_; rotate_left 1; rfl; (focus (intro wS hSw; have hk := below_rule hSw; go_simp; first | done | with_reducible rfl)); (try simp only [Act.put, List.setIfInBounds_toArray, List.set_cons_zero, List.set_cons_succ]))
            | (refine seq_skip rfl ?_ ?_; rfl; (try simp only [Act.put, List.setIfInBounds_toArray, List.set_cons_zero, List.set_cons_succ]))
            | (refine seq_run rfl (fun K hK => ?_); go_simp; (try (first | (go_at_call 20; refine (lawcompare_any _ _ _ _ _).mono ?_; rintro e w' ⟨rfl, hb'⟩))); (try go_wp2_with fail); refine hK.out _ _ ?_ ?_; (focus (first | exact below_step hHeld hb' | exact below_new hHeld _ | exact hHeld)); (try clear hb'); clear hHeld hK K; intro hHeld; (try simp only [Act.put, List.setIfInBounds_toArray, List.set_cons_zero, List.set_cons_succ])))
          first | refine seq_done ?_ | skip
          (try generalize w4.drew = w5 at *)
          replace hS := hS.later hHeld
          replace q0 := cell_later hHeld q0
          replace q1 := cell_later hHeld q1
          replace c0 := hS.c0
          replace c1 := hS.c1
          have f0 := hS.fr 0
          have f1 := hS.fr 1
          clear hHeld hb4
          go_wp2_with fail
          replace hS := hS.set x y
          clear c0 c1 f0 f1 q0 q1
          refine gen_world (S := fun W => Sorts w g W x y (.slice (some ⟨gb, 0, none⟩) X.length cap) X) hS (fun W hS => ?_)
          have hcW : ∀ j u, (flatS X)[j]? = some u → W.cell? ⟨gb, j, none⟩ = some u := fun j u hj => by
            have := hS.own.cells (g := gb) rfl j u hj
            rw [addr_add, Nat.zero_add] at this
            exact this
          obtain ⟨ad, had, hadc⟩ := tail_cells (W := W) (gb := gb) (cap := cap) (m := m) m6 hcap hcW
          have Hadc := Lib.hid hadc
          have HcW := Lib.hid hcW
          clear hadc hcW
          have m7 : (0 : Int) ≤ (m : Int) + 1 := by omega
          have m8 : (m : Int) + 1 ≤ (X.length : Int) := by omega
          have m9 : ((m : Int) + 1).toNat = m + 1 := by omega
          have m10 : IntKind.i64.wrap ((m : Int) + 1) = (m : Int) + 1 := IntWalk.i64_in _ (by omega)
          refine wp_region_seq ((1, true) :: (2, true) :: (3, true) :: (5, true) :: (6, true) :: (7, true) :: (8, true) :: (0, false) :: (4, false) :: (9, false) :: (10, true) :: []) (by kernel_rfl) (by kernel_rfl) (by kernel_rfl) (by decide) (fun _ _ _ _ _ h => h) (fun hHeld => ?_)
          repeat (first
            | (refine seq_take (v := ?_) rfl ?_ ?_ ?_; rotate_left 1; rfl; (focus (intro wS hSw; have hk := below_rule hSw; go_simp; first | done | with_reducible rfl)); (try simp only [Act.put, List.setIfInBounds_toArray, List.set_cons_zero, List.set_cons_succ]))
            | (refine seq_skip rfl ?_ ?_; rfl; (try simp only [Act.put, List.setIfInBounds_toArray, List.set_cons_zero, List.set_cons_succ])))
          refine seq_run rfl (fun K hK => ?_); go_simp; (try skip); (try go_wp2_with fail); refine hK.out _ _ ?_ ?_; (focus (first | exact below_step hHeld hb' | exact below_new hHeld _ | exact hHeld)); (try clear hb'); clear hHeld hK K; intro hHeld; (try simp only [Act.put, List.setIfInBounds_toArray, List.set_cons_zero, List.set_cons_succ])
          clear m9 m10
          refine seq_run rfl (fun K hK => ?_)
          rw [if_pos (by rfl)]
          refine wp_append_own _ _ 31 rfl W.heap.size 23 i0 (.agg #[.int .i64 0, .int .i64 0]) 2 16 Try.underlying31 hi0 hz0 hz1 hz2 rfl (by decide) _ 0 [] rfl (World.ownsRow_made W.drew #[] 0 (Nat.le_refl _) (by unfold maxLen; omega) rfl) (some ⟨gb, 0, none⟩) m cap (flatS (X.take m)) rfl (fun h => by cases h) (by rw [flatS_length, List.length_take, Nat.min_eq_left (by omega)]) ?_ (flatS_one _) (by unfold maxLen; omega) (by omega) hHeld.size ?_
          · intro ad' h' j u hj
            cases h'
            rw [addr_add, Nat.zero_add]
            exact cell_later hHeld (HcW.out j u (flatS_head X m j u hj))
          intro v1 w6 hown1 hgrow1
          refine hK.out _ _ ?_ (fun hHeld3 => ?_)
          · exact hHeld.grown hgrow1 hHeld.size (fun k hk => by cases hk; exact Nat.le_refl _)
          (try simp only [Act.put, List.setIfInBounds_toArray, List.set_cons_zero, List.set_cons_succ])
          clear hK K hHeld hgrow1
          have hs6 := hHeld3.size
          have hX' : (X.take m ++ X.drop (m + 1)).length = 0 + m + (X.length - (m + 1)) := by rw [List.length_append, List.length_take, List.length_drop, Nat.min_eq_left (by omega)]; omega
          have HX' := Lib.hid hX'
          clear hX'
          refine seq_run rfl (fun K hK => ?_)
          rw [if_pos (by rfl)]
          refine wp_append_own _ _ 31 rfl W.heap.size 23 i0 (.agg #[.int .i64 0, .int .i64 0]) 2 16 Try.underlying31 hi0 hz0 hz1 hz2 rfl (by decide) _ (0 + m) ([] ++ flatS (X.take m)) rfl hown1 (some ad) (X.length - (m + 1)) _ (flatS (X.drop (m + 1))) rfl (fun h => by cases h) (by rw [flatS_length, List.length_drop]) ?_ (flatS_one _) (by unfold maxLen; omega) (by omega) hs6 ?_
          · intro ad' h' j u hj
            cases h'
            exact cell_later hHeld3 (Hadc.out j u hj)
          intro v2 w7 hown2 hgrow2
          refine hK.out _ _ ?_ (fun hHeld4 => ?_)
          · exact hHeld3.grown hgrow2 hs6 (fun k hk => (hown1.lt k hk).1)
          (try simp only [Act.put, List.setIfInBounds_toArray, List.set_cons_zero, List.set_cons_succ])
          clear hK K hHeld3 hgrow2 hown1
          rw [← HX'.out, List.nil_append, ← flatS_append] at hown2
          replace hS := hS.next hHeld4 hown2
          clear hown2 hHeld4 hs6 had
          repeat (first
            | (refine seq_take (v := ?_) rfl ?_ ?_ ?_; rotate_left 1; rfl; (focus (intro wS hSw; have hk := below_rule hSw; go_simp; first | done | with_reducible rfl)); (try simp only [Act.put, List.setIfInBounds_toArray, List.set_cons_zero, List.set_cons_succ]))
            | (refine seq_skip rfl ?_ ?_; rfl; (try simp only [Act.put, List.setIfInBounds_toArray, List.set_cons_zero, List.set_cons_succ])))
          refine seq_done ?_
          go_wp2
          go_roundw
          case rel => exact ⟨n + 1, x, y, X.take m ++ X.drop (m + 1), by omega, by go_num, by
            show (X.take m ++ X.drop (m + 1)).length + (n + 1) = len0
            rw [HX'.out]
            have := hX.out
            omega, hS, fun _ => HC'.out⟩
          case measure => simp [intOf]; omega
      · have h0 : X.length = 0 := by have := hX.out; omega
        have hX0' : X = [] := List.eq_nil_of_length_eq_zero h0
        obtain rfl : n = len0 := by omega
        subst hX0'
        obtain ⟨A, c', rfl⟩ := own_none hS.own
        have hbf := hS.below
        go_wp2
        go_ret
        exact ⟨rfl, hbf⟩

end Go.Proofs.Ytlhacbhdajjkhaa
