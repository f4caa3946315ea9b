/-
  Contracts of the functions of package tick: what each call answers, what becomes of the stamp that is being made, of the cells, and of what is noted. No condition but that numbers fit their kinds.
-/
import Derived.Test.YtoogdfjlodchhaaTickBase
import Derived.IntWalk
namespace Go.Proofs.Ytoogdfjlodchhaa
open Go.RowKit
set_option linter.unusedVariables false

theorem low_range (x : Int) (h0 : 0 ≤ x) : 0 ≤ low x ∧ low x ≤ 16777215 := by unfold low; omega



theorem ret_i64' {a b : Int} (h : a = b) : Ending.returned (i64 a) = .returned (i64 b) := by rw [h]

set_option maxHeartbeats 1000000 in
theorem bounded_any (x : Int) (w : World) (h0 : 0 ≤ x) (h1 : x ≤ 18446744073709551615) :
    Calls Try.prog 94 #[u64 x] w fun r w' => r = .returned (i64 (low x)) ∧ w = w' := by
  by_cases hx : x ≤ 16777215
  · have e : low x = x := by unfold low; omega
    have E := Lib.hid e
    clear e
    go_enter Try.func94, Try.ntmps94
    go_wp2
    go_ret
    exact ⟨ret_i64' (by rw [E.out]), rfl⟩
  · have e : low x = 16777215 := by unfold low; omega
    have E := Lib.hid e
    clear e
    go_enter Try.func94, Try.ntmps94
    go_wp2
    go_ret
    exact ⟨ret_i64' (by rw [E.out]), rfl⟩

theorem setTk {w : World} {b : Nat} {k k' : Tk} (h : IsTk w b k) (i : Nat) (u : Value) (hk : (k.list.set i u) = k'.list) : IsTk (w.setCell ⟨b, i, none⟩ u) b k' := by
  have hc : ∀ j x, k.list[j]? = some x → w.cell? ⟨b, j, none⟩ = some x := by
    intro j x hj
    obtain ⟨c0, c1, c2, c3, c4, c5, c6, c7, c8, c9, _⟩ := h
    rcases j with _ | _ | _ | _ | _ | _ | _ | _ | _ | _ | j
    all_goals first | (simp at hj; subst hj; assumption) | (simp at hj)
  have hn : ∀ j x, k'.list[j]? = some x → (w.setCell ⟨b, i, none⟩ u).cell? ⟨b, j, none⟩ = some x := by
    intro j x hj
    rw [← hk, List.getElem?_set] at hj
    by_cases hij : i = j
    · subst hij
      simp only [if_true] at hj
      split at hj
      · rename_i hl
        cases hj
        exact World.cell?_setCell_same _ _ _ (hc i _ (List.getElem?_eq_getElem hl))
      · cases hj
    · rw [if_neg hij] at hj
      rw [World.cell?_setCell_other _ _ _ _ (fun e => hij (by injection e))]
      exact hc j x hj
  exact ⟨hn 0 _ rfl, hn 1 _ rfl, hn 2 _ rfl, hn 3 _ rfl, hn 4 _ rfl, hn 5 _ rfl, hn 6 _ rfl, hn 7 _ rfl, hn 8 _ rfl, hn 9 _ rfl, fun o => by rw [World.frozen?_setCell]; exact h.fz o⟩

/-- A stamp's two numbers in a block. -/
def At2 (b : Nat) (x y : Int) (w : World) : Prop := w.cell? ⟨b, 0, none⟩ = some (i64 x) ∧ w.cell? ⟨b, 1, none⟩ = some (i64 y)

theorem Keep.own {b : Nat} {w w' : World} (h : Keep (· = b) w w') (o : Nat) (u : Value) : Keep (· = b) w (w'.setCell ⟨b, o, none⟩ u) := h.setCell _ rfl u

theorem At2.set {b a x y : _} {w : World} (h : At2 b x y w) (o : Nat) (u : Value) (hne : a ≠ b) : At2 b x y (w.setCell ⟨a, o, none⟩ u) :=
  ⟨by rw [World.cell?_setCell_other _ _ _ _ (fun e => hne (by injection e))]; exact h.1, by rw [World.cell?_setCell_other _ _ _ _ (fun e => hne (by injection e))]; exact h.2⟩

set_option maxHeartbeats 2000000 in
theorem finish_yes (w : World) (b : Nat) (k : Tk) (x y : Int) (hT : IsTk w b k) (h : 0 ≤ x ∧ x ≤ y ∧ y < 16777215) :
    Calls Try.prog 96 #[pt b, i64 x, i64 y] w fun r w' => r = .returned (.bool true) ∧ IsTk w' b { k with ph := 1, lo := x, hi := y } ∧ Keep (· = b) w w' := by
  have hr : rightB x y = true := by simp [rightB, h]
  have hlt := hT.lt
  have hR := fun W => right_any x y W
  rw [hr] at hR
  have HR := Lib.hid hR
  have HT := Lib.hid hT
  clear hR hr hT h
  go_enter Try.func96, Try.ntmps96
  go_wp2_with fail
  refine (HR.out _).mono ?_
  rintro r w1 ⟨rfl, hb1⟩
  have hA : At2 w.heap.size x y w1 := ⟨by rw [hb1.cell (p := ⟨w.heap.size, 0, none⟩) (by simp)]; exact World.cell?_alloc_new w _ _ 0, by rw [hb1.cell (p := ⟨w.heap.size, 1, none⟩) (by simp)]; exact World.cell?_alloc_new w _ _ 1⟩
  have hT1 := (HT.out.later (below_new (Below.refl _ _) (.cells #[.int .i64 x, .int .i64 y] 52))).later hb1
  have hB1 : Below w.heap.size w w1 := below_step (below_new (Below.refl _ _) _) hb1
  have HB1 := Lib.hid hB1
  have HA := Lib.hid hA
  clear hA hB1 hb1
  go_wp2_with fail
  refine wp_region_seqS ((At2 w.heap.size x y)) ((0, true) :: (1, true) :: (2, true) :: (3, true) :: (4, true) :: (5, false) :: (6, true) :: (7, true) :: (8, false) :: []) (by kernel_rfl) (by kernel_rfl) (by kernel_rfl) (by decide) (fun _ _ _ _ _ h => h) (HA.out) ?_
  repeat (first | (refine seq_take (v := ?_) rfl ?_ ?_ ?_; rotate_left 1; rfl; (focus (intro wS hSw; obtain ⟨s0, s1⟩ := hSw; go_simp; first | done | with_reducible rfl)); (try simp only [Act.put, List.setIfInBounds_toArray, List.set_cons_zero, List.set_cons_succ])) | (refine seq_skip rfl ?_ ?_; rfl; (try simp only [Act.put, List.setIfInBounds_toArray, List.set_cons_zero, List.set_cons_succ])))
  obtain ⟨c0, c1, c2, c3, c4, c5, c6, c7, c8, c9, fz⟩ := id hT1
  have f7 := fz 7
  have f8 := fz 8
  have f9 := fz 9
  clear fz
  refine seq_run rfl (fun K hK => ?_)
  go_simp
  have hne : b ≠ w.heap.size := by omega
  have hA2 := (HA.out.set 7 (.int .i64 1) hne)
  have HA2 := Lib.hid hA2
  clear hA2
  refine hK.out _ _ (HA2.out) (fun _ => ?_)
  (try simp only [Act.put, List.setIfInBounds_toArray, List.set_cons_zero, List.set_cons_succ])
  clear hK K
  repeat (first | (refine seq_take (v := ?_) rfl ?_ ?_ ?_; rotate_left 1; rfl; (focus (intro wS hSw; obtain ⟨s0, s1⟩ := hSw; go_simp; first | done | with_reducible rfl)); (try simp only [Act.put, List.setIfInBounds_toArray, List.set_cons_zero, List.set_cons_succ])) | (refine seq_skip rfl ?_ ?_; rfl; (try simp only [Act.put, List.setIfInBounds_toArray, List.set_cons_zero, List.set_cons_succ])))
  refine seq_run rfl (fun K hK => ?_)
  go_simp
  have hA3 := (HA2.out.set 8 (.int .i64 x) hne).set 9 (.int .i64 y) hne
  have HA3 := Lib.hid hA3
  clear hA3
  refine hK.out _ _ (HA3.out) (fun _ => ?_)
  (try simp only [Act.put, List.setIfInBounds_toArray, List.set_cons_zero, List.set_cons_succ])
  clear hK K
  refine seq_done ?_
  go_wp2
  go_ret
  have hT2 := setTk hT1 (k' := { k with ph := 1 }) 7 (.int .i64 1) rfl
  have hT3 := setTk hT2 (k' := { k with ph := 1, lo := x }) 8 (.int .i64 x) rfl
  have hT4 := setTk hT3 (k' := { k with ph := 1, lo := x, hi := y }) 9 (.int .i64 y) rfl
  exact ⟨rfl, hT4.drew, ((((Keep.of_below HB1.out).own 7 _).own 8 _).own 9 _).drew⟩

set_option maxHeartbeats 2000000 in
theorem finish_no (w : World) (b : Nat) (k : Tk) (x y : Int) (hT : IsTk w b k) (h : ¬ (0 ≤ x ∧ x ≤ y ∧ y < 16777215)) :
    Calls Try.prog 96 #[pt b, i64 x, i64 y] w fun r w' => r = .returned (.bool false) ∧ IsTk w' b { k with ph := 2 } ∧ Keep (· = b) w w' := by
  have hr : rightB x y = false := by simp only [rightB, decide_eq_false_iff_not]; exact h
  have hR := fun W => right_any x y W
  rw [hr] at hR
  have HR := Lib.hid hR
  have HT := Lib.hid hT
  clear hR hr hT h
  go_enter Try.func96, Try.ntmps96
  go_wp2_with fail
  refine (HR.out _).mono ?_
  rintro r w1 ⟨rfl, hb1⟩
  have hT1 := (HT.out.later (below_new (Below.refl _ _) (.cells #[.int .i64 x, .int .i64 y] 52))).later hb1
  have hB1 : Below w.heap.size w w1 := below_step (below_new (Below.refl _ _) _) hb1
  have HB1 := Lib.hid hB1
  clear hB1 hb1
  have c7 := hT1.c7
  have f7 := hT1.fz 7
  have HT1 := Lib.hid hT1
  clear hT1
  go_wp2
  go_ret
  exact ⟨rfl, setTk HT1.out (k' := { k with ph := 2 }) 7 (.int .i64 2) rfl, (Keep.of_below HB1.out).own 7 _⟩

theorem fin_yes (k : Tk) {x y : Int} (h : 0 ≤ x ∧ x ≤ y ∧ y < 16777215) : fin k x y = { k with ph := 1, lo := x, hi := y } := if_pos h
theorem fin_no (k : Tk) {x y : Int} (h : ¬ (0 ≤ x ∧ x ≤ y ∧ y < 16777215)) : fin k x y = { k with ph := 2 } := if_neg h

theorem finish_any (w : World) (b : Nat) (k : Tk) (x y : Int) (hT : IsTk w b k) :
    Calls Try.prog 96 #[pt b, i64 x, i64 y] w fun r w' => (∃ g, r = .returned (.bool g)) ∧ IsTk w' b (fin k x y) ∧ Keep (· = b) w w' := by
  by_cases h : 0 ≤ x ∧ x ≤ y ∧ y < 16777215
  · rw [fin_yes k h]
    exact (finish_yes w b k x y hT h).mono fun r w' ⟨h1, h2⟩ => ⟨⟨_, h1⟩, h2⟩
  · rw [fin_no k h]
    exact (finish_no w b k x y hT h).mono fun r w' ⟨h1, h2⟩ => ⟨⟨_, h1⟩, h2⟩

theorem cnum_at (t s so d n : Int) (nb j : Nat) (w : World) (h : Lay t s n) (hnb : (nb : Int) = 2 * n + t) (hj : (j : Int) ≤ t) :
    Calls Try.prog 23 #[cf t s so d, i64 j] w fun r w' => r = .returned (i64 (nb + j : Nat)) ∧ Below w.heap.size w w' := by
  have := cnumber_any t s so d n j w h (by omega) hj
  rw [show (2 * n + t + (j : Int)) = ((nb + j : Nat) : Int) by omega] at this
  exact this
theorem cnum_0 (t s so d n : Int) (nb : Nat) (w : World) (h : Lay t s n) (hnb : (nb : Int) = 2 * n + t) :
    Calls Try.prog 23 #[cf t s so d, i64 0] w fun r w' => r = .returned (i64 nb) ∧ Below w.heap.size w w' := by
  have := cnumber_any t s so d n 0 w h (by omega) (by have := h.t1; omega)
  rw [show (2 * n + t + (0 : Int)) = (nb : Int) by omega] at this
  exact this

section
variable (base : Nat) (w : World) (b p c : Nat) (v : Value) (C : List Int) (L : List Ev) (k : Tk) (nb : Nat) (n : Int)

set_option maxHeartbeats 2000000 in
theorem tload_any (j : Nat) (x : Int) (hT : IsTk w b k) (hM : IsMem base w p c v C L) (ha : ¬ Foot p c v b) (hl : Lay k.t k.s n) (hnb : (nb : Int) = 2 * n + k.t) (hj : (j : Int) ≤ k.t) (hx : C[nb + j]? = some x) (hb : base ≤ w.heap.size) (hL : L.length < 1000000000) :
    Calls Try.prog 97 #[pt b, pt p, i64 j] w (TickPost base w b p c v k C (L ++ [⟨k.who, 0, (nb + j : Nat), x, x, true⟩]) (.returned (i64 (low x)))) := by
  have HS := Lib.hid (Stepped.refl hT hM ha hb)
  have HX := Lib.hid hx
  have Hnb := Lib.hid hnb
  have hn := hM.numAt hx
  clear hM ha hx hnb
  go_enter Try.func97, Try.ntmps97
  go_wp2_with fail
  refine wp_region_seqS ((fun w' => IsTk w' b k)) ((0, true) :: (1, true) :: (2, true) :: (3, true) :: (4, true) :: (5, true) :: (6, true) :: (7, true) :: (8, true) :: (9, true) :: (10, false) :: (11, false) :: (12, false) :: (13, true) :: []) (by kernel_rfl) (by kernel_rfl) (by kernel_rfl) (by decide) (fun _ _ _ _ _ h => h) (hT.drew) ?_
  clear hT
  repeat (first | (refine seq_take (v := ?_) rfl ?_ ?_ ?_; rotate_left 1; rfl; (focus (intro wS hSw; obtain ⟨s0, s1, s2, s3, s4, s5, s6, s7, s8, s9, sf⟩ := hSw; go_simp; first | done | with_reducible rfl)); (try simp only [Act.put, List.setIfInBounds_toArray, List.set_cons_zero, List.set_cons_succ])) | (refine seq_skip rfl ?_ ?_; rfl; (try simp only [Act.put, List.setIfInBounds_toArray, List.set_cons_zero, List.set_cons_succ])))
  refine seq_run rfl (fun K hK => ?_)
  go_simp
  go_at_call 23
  refine (cnum_at _ _ _ _ n nb j _ hl Hnb.out hj).mono ?_
  rintro r w1 ⟨rfl, hb1⟩
  (try go_wp2_with fail)
  replace HS := Lib.hid (HS.out.drew.later hb1)
  clear hb1
  refine hK.out _ _ (HS.out.tk) (fun _ => ?_)
  (try simp only [Act.put, List.setIfInBounds_toArray, List.set_cons_zero, List.set_cons_succ])
  clear hK K
  repeat (first | (refine seq_take (v := ?_) rfl ?_ ?_ ?_; rotate_left 1; rfl; (focus (intro wS hSw; obtain ⟨s0, s1, s2, s3, s4, s5, s6, s7, s8, s9, sf⟩ := hSw; go_simp; first | done | with_reducible rfl)); (try simp only [Act.put, List.setIfInBounds_toArray, List.set_cons_zero, List.set_cons_succ])) | (refine seq_skip rfl ?_ ?_; rfl; (try simp only [Act.put, List.setIfInBounds_toArray, List.set_cons_zero, List.set_cons_succ])))
  refine seq_run rfl (fun K hK => ?_)
  go_simp
  go_at_call 89
  refine (load_in base _ p c _ _ _ k.who (nb + j) x HS.out.mem HX.out HS.out.size hL).mono ?_
  rintro r w2 ⟨rfl, v2, hT2⟩
  (try go_wp2_with fail)
  replace HS := Lib.hid (HS.out.cells hT2)
  clear hT2
  refine hK.out _ _ (HS.out.tk) (fun _ => ?_)
  (try simp only [Act.put, List.setIfInBounds_toArray, List.set_cons_zero, List.set_cons_succ])
  clear hK K
  repeat (first | (refine seq_take (v := ?_) rfl ?_ ?_ ?_; rotate_left 1; rfl; (focus (intro wS hSw; obtain ⟨s0, s1, s2, s3, s4, s5, s6, s7, s8, s9, sf⟩ := hSw; go_simp; first | done | with_reducible rfl)); (try simp only [Act.put, List.setIfInBounds_toArray, List.set_cons_zero, List.set_cons_succ])) | (refine seq_skip rfl ?_ ?_; rfl; (try simp only [Act.put, List.setIfInBounds_toArray, List.set_cons_zero, List.set_cons_succ])))
  refine seq_run rfl (fun K hK => ?_)
  go_simp
  go_at_call 94
  refine (bounded_any x _ hn.1 hn.2).mono ?_
  rintro r w3 ⟨rfl, rfl⟩
  (try go_wp2_with fail)
  refine hK.out _ _ (HS.out.tk) (fun _ => ?_)
  (try simp only [Act.put, List.setIfInBounds_toArray, List.set_cons_zero, List.set_cons_succ])
  clear hK K
  repeat (first | (refine seq_take (v := ?_) rfl ?_ ?_ ?_; rotate_left 1; rfl; (focus (intro wS hSw; obtain ⟨s0, s1, s2, s3, s4, s5, s6, s7, s8, s9, sf⟩ := hSw; go_simp; first | done | with_reducible rfl)); (try simp only [Act.put, List.setIfInBounds_toArray, List.set_cons_zero, List.set_cons_succ])) | (refine seq_skip rfl ?_ ?_; rfl; (try simp only [Act.put, List.setIfInBounds_toArray, List.set_cons_zero, List.set_cons_succ])))
  refine seq_done ?_
  go_wp2
  go_ret
  exact ⟨rfl, _, HS.out⟩

set_option maxHeartbeats 2000000 in
theorem count_tick (x : Int) (hT : IsTk w b k) (hM : IsMem base w p c v C L) (ha : ¬ Foot p c v b) (hl : Lay k.t k.s n) (hnb : (nb : Int) = 2 * n + k.t) (hx : C[nb]? = some x) (hb : base ≤ w.heap.size) (hL : L.length < 1000000000) :
    Calls Try.prog 78 #[pt b, pt p] w (TickPost base w b p c v (fin k (low x) (low x)) (C.set nb (add64 x 1)) (L ++ [⟨k.who, 3, nb, x, add64 x 1, true⟩]) (.returned (.tuple #[]))) := by
  have HS := Lib.hid (Stepped.refl hT hM ha hb)
  have HX := Lib.hid hx
  have Hnb := Lib.hid hnb
  have hn := hM.numAt hx
  clear hM ha hx hnb
  go_enter Try.func78, Try.ntmps78
  go_wp2_with fail
  refine wp_region_seqS ((fun w' => IsTk w' b k)) ((0, true) :: (1, true) :: (2, true) :: (3, true) :: (4, true) :: (5, true) :: (6, true) :: (7, true) :: (8, true) :: (9, false) :: (10, false) :: (11, false) :: (12, true) :: []) (by kernel_rfl) (by kernel_rfl) (by kernel_rfl) (by decide) (fun _ _ _ _ _ h => h) (hT.drew) ?_
  clear hT
  repeat (first | (refine seq_take (v := ?_) rfl ?_ ?_ ?_; rotate_left 1; rfl; (focus (intro wS hSw; obtain ⟨s0, s1, s2, s3, s4, s5, s6, s7, s8, s9, sf⟩ := hSw; go_simp; first | done | with_reducible rfl)); (try simp only [Act.put, List.setIfInBounds_toArray, List.set_cons_zero, List.set_cons_succ])) | (refine seq_skip rfl ?_ ?_; rfl; (try simp only [Act.put, List.setIfInBounds_toArray, List.set_cons_zero, List.set_cons_succ])))
  refine seq_run rfl (fun K hK => ?_)
  go_simp
  go_at_call 23
  refine (cnum_0 _ _ _ _ n nb _ hl Hnb.out).mono ?_
  rintro r w1 ⟨rfl, hb1⟩
  (try go_wp2_with fail)
  replace HS := Lib.hid (HS.out.drew.later hb1)
  clear hb1
  refine hK.out _ _ (HS.out.tk) (fun _ => ?_)
  (try simp only [Act.put, List.setIfInBounds_toArray, List.set_cons_zero, List.set_cons_succ])
  clear hK K
  repeat (first | (refine seq_take (v := ?_) rfl ?_ ?_ ?_; rotate_left 1; rfl; (focus (intro wS hSw; obtain ⟨s0, s1, s2, s3, s4, s5, s6, s7, s8, s9, sf⟩ := hSw; go_simp; first | done | with_reducible rfl)); (try simp only [Act.put, List.setIfInBounds_toArray, List.set_cons_zero, List.set_cons_succ])) | (refine seq_skip rfl ?_ ?_; rfl; (try simp only [Act.put, List.setIfInBounds_toArray, List.set_cons_zero, List.set_cons_succ])))
  refine seq_run rfl (fun K hK => ?_)
  go_simp
  go_at_call 95
  refine (add_in base _ p c _ _ _ k.who nb x 1 HS.out.mem HX.out HS.out.size hL).mono ?_
  rintro r w2 ⟨rfl, v2, hT2⟩
  (try go_wp2_with fail)
  replace HS := Lib.hid (HS.out.cells hT2)
  clear hT2
  refine hK.out _ _ (HS.out.tk) (fun _ => ?_)
  (try simp only [Act.put, List.setIfInBounds_toArray, List.set_cons_zero, List.set_cons_succ])
  clear hK K
  repeat (first | (refine seq_take (v := ?_) rfl ?_ ?_ ?_; rotate_left 1; rfl; (focus (intro wS hSw; obtain ⟨s0, s1, s2, s3, s4, s5, s6, s7, s8, s9, sf⟩ := hSw; go_simp; first | done | with_reducible rfl)); (try simp only [Act.put, List.setIfInBounds_toArray, List.set_cons_zero, List.set_cons_succ])) | (refine seq_skip rfl ?_ ?_; rfl; (try simp only [Act.put, List.setIfInBounds_toArray, List.set_cons_zero, List.set_cons_succ])))
  refine seq_run rfl (fun K hK => ?_)
  go_simp
  go_at_call 94
  refine (bounded_any x _ hn.1 hn.2).mono ?_
  rintro r w3 ⟨rfl, rfl⟩
  (try go_wp2_with fail)
  refine hK.out _ _ (HS.out.tk) (fun _ => ?_)
  (try simp only [Act.put, List.setIfInBounds_toArray, List.set_cons_zero, List.set_cons_succ])
  clear hK K
  repeat (first | (refine seq_take (v := ?_) rfl ?_ ?_ ?_; rotate_left 1; rfl; (focus (intro wS hSw; obtain ⟨s0, s1, s2, s3, s4, s5, s6, s7, s8, s9, sf⟩ := hSw; go_simp; first | done | with_reducible rfl)); (try simp only [Act.put, List.setIfInBounds_toArray, List.set_cons_zero, List.set_cons_succ])) | (refine seq_skip rfl ?_ ?_; rfl; (try simp only [Act.put, List.setIfInBounds_toArray, List.set_cons_zero, List.set_cons_succ])))
  refine seq_done ?_
  go_wp2_with fail
  refine (finish_any _ b k _ _ HS.out.tk).mono ?_
  rintro r w4 ⟨⟨g, rfl⟩, hT4, hK4⟩
  go_wp2
  go_end0
  exact ⟨rfl, _, HS.out.own hT4 hK4⟩

end

end Go.Proofs.Ytoogdfjlodchhaa
