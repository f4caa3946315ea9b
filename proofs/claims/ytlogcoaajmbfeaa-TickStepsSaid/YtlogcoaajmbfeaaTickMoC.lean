/-
  The contract of Model.Step of package stackyardlaw05, by cases (mo_full). No condition but that numbers fit their kinds.
-/
import Derived.Test.YtlogcoaajmbfeaaTickModel
namespace Go.Proofs.Ytlogcoaajmbfeaa
open Go.RowKit
set_option linter.unusedVariables false

section
variable (base : Nat) (w : World) (q p c : Nat) (v : Value) (C : List Int) (L : List Ev) (k : Mo) (nb : Nat) (m : Int)

set_option maxRecDepth 100000 in
set_option maxHeartbeats 4000000 in
theorem mo_full (now z : Int) (hso : k.so = 1) (hge : k.t ≤ k.n) (a0 : 0 ≤ k.a) (a1 : k.a ≤ 16777215) (X Y : Int) (hmd : ∀ W : World, Calls Try.prog 34 #[i64 (k.a + 1), i64 (k.a + 1)] W fun r w' => r = .returned (.tuple #[st X Y, i64 2]) ∧ Below W.heap.size W w')(hn0 : 0 ≤ k.n) (hn1 : k.n ≤ 1000000) (hK : IsMo w q k) (hM : IsMem base w p c v C L) (ha : ¬ Foot p c v q) (hb : base ≤ w.heap.size) (hl : Lay k.t k.s m) (hnb : (nb : Int) = 2 * m + k.t) (hz : C[nb]? = some z) :
    Calls Try.prog 18 #[pt q, pt p, i64 now] w (MoPost base w q p c v C L { k with n := k.n + 1, cell := -1, x := X, y := Y, ph := 2 }) := by
  have HMD := Lib.hid hmd
  clear hmd
  have EW : Hid (IntKind.i64.wrap (k.a + 1) = k.a + 1) := by show _ = _; rw [IntWalk.i64_in _ (by omega)]
  have hge' : ¬ k.n < k.t := by omega
  have H := Lib.hid (show MoS base w w q p c v C L k from ⟨hK, hM, Keep.refl _ _, ha⟩)
  obtain ⟨s0, s1, s2, s3, s4, s5, s6, s7, s8, s9, s10, s11, s12, sf⟩ := id hK
  have f5 := sf 5
  have f6 := sf 6
  have f7 := sf 7
  have f8 := sf 8
  have f9 := sf 9
  have f10 := sf 10
  have f11 := sf 11
  have f12 := sf 12
  have hq := hK.lt
  have Hnb := Lib.hid hnb
  have Hz := Lib.hid hz
  have hnz := hM.numAt hz
  have q0 : (k.so == 0) = false := by simp [hso]
  have q1 : (k.so == 1) = true := by simp [hso]
  have q2 : (k.so == 2) = false := by simp [hso]
  have q3 : (k.so == 3) = false := by simp [hso]
  have hnow : (now ≤ 16777215 ∧ low now = now) ∨ (16777215 < now ∧ low now = 16777215) := by unfold low; omega
  clear sf hM ha hnb hz hK hso
  rcases hnow with ⟨hn1, hlow⟩ | ⟨hn1, hlow⟩
  all_goals
    have HLow := Lib.hid hlow
    clear hlow
    go_enter Try.func18, Try.ntmps18
    go_wp2_with fail
    refine (cnum_0 _ _ _ _ m nb _ hl Hnb.out).mono ?_
    rintro r w1 ⟨rfl, hb1⟩
    replace H := Lib.hid (((H.out.set { k with cell := -1 } 10 (.int .i64 (-1)) rfl).set { k with cell := -1, n := k.n + 1 } 5 (.int .i64 (k.n + 1)) rfl).later hb1)
    clear hb1 s0 s1 s2 s3 s4 s5 s6 s7 s8 s9 s10 s11 s12 f5 f6 f7 f8 f9 f10 f11 f12 hq
    obtain ⟨t0, t1, t2, t3, t4, t5, t6, t7, t8, t9, t10, t11, t12, tf⟩ := id H.out.mo
    have g5 := tf 5; have g6 := tf 6; have g7 := tf 7; have g8 := tf 8; have g9 := tf 9; have g10 := tf 10; have g11 := tf 11; have g12 := tf 12
    clear tf
    go_wp2_with fail
    refine (peek_in base _ p c v C L nb z H.out.mem Hz.out).mono ?_
    rintro r w' ⟨rfl, rfl⟩
    go_wp2_with fail
    refine (low_any z _ hnz.1 hnz.2).mono ?_
    rintro r w' ⟨rfl, rfl⟩
    go_wp2_with fail
    replace H := Lib.hid H.out
    refine wp_region_seqS ((fun w' => w'.cell? ⟨q, 6, none⟩ = some (i64 k.a))) ((0, true) :: (1, true) :: (2, true) :: (3, true) :: (4, true) :: (5, true) :: (6, true) :: (7, true) :: (8, true) :: (9, true) :: (10, true) :: (11, true) :: (12, false) :: (13, true) :: (14, true) :: (15, true) :: (16, true) :: (17, true) :: (18, false) :: (19, true) :: (20, true) :: (21, false) :: []) (by kernel_rfl) (by kernel_rfl) (by kernel_rfl) (by decide) (fun _ _ _ _ _ h => h) (H.out.drew.mo.c6) ?_
    replace H := Lib.hid H.out.drew
    clear t0 t1 t2 t3 t4 t5 t6 t7 t8 t9 t10 t11 t12 g5 g6 g7 g8 g9 g10 g11 g12
    repeat (first | (refine seq_take (v := ?_) rfl ?_ ?_ ?_; rotate_left 1; rfl; (focus (intro wS hSw; skip; go_simp; first | done | with_reducible rfl)); (try simp only [Act.put, List.setIfInBounds_toArray, List.set_cons_zero, List.set_cons_succ])) | (refine seq_skip rfl ?_ ?_; rfl; (try simp only [Act.put, List.setIfInBounds_toArray, List.set_cons_zero, List.set_cons_succ])))
    (try rw [EW.out])
    refine seq_run rfl (fun K hK => ?_)
    go_simp
    go_at_call 34
    refine (HMD.out _).mono ?_
    rintro r w2 ⟨rfl, hb2⟩
    (try go_wp2_with fail)
    replace H := Lib.hid (H.out.later hb2)
    clear hb2
    refine hK.out _ _ (H.out.mo.c6) (fun _ => ?_)
    (try simp only [Act.put, List.setIfInBounds_toArray, List.set_cons_zero, List.set_cons_succ])
    clear hK K
    repeat (first | (refine seq_take (v := ?_) rfl ?_ ?_ ?_; rotate_left 1; rfl; (focus (intro wS hSw; skip; go_simp; first | done | with_reducible rfl)); (try simp only [Act.put, List.setIfInBounds_toArray, List.set_cons_zero, List.set_cons_succ])) | (refine seq_skip rfl ?_ ?_; rfl; (try simp only [Act.put, List.setIfInBounds_toArray, List.set_cons_zero, List.set_cons_succ])))
    (try clear t0 t1 t2 t3 t4 t5 t6 t7 t8 t9 t10 t11 t12 g5 g6 g7 g8 g9 g10 g11 g12)
    obtain ⟨t0, t1, t2, t3, t4, t5, t6, t7, t8, t9, t10, t11, t12, tf⟩ := id H.out.mo
    have g5 := tf 5; have g6 := tf 6; have g7 := tf 7; have g8 := tf 8; have g9 := tf 9; have g10 := tf 10; have g11 := tf 11; have g12 := tf 12
    clear tf
    refine seq_run rfl (fun K hK => ?_)
    go_simp
    refine hK.out _ _ (((H.out.set { k with cell := -1, n := k.n + 1, x := X } 7 (.int .i64 (X)) rfl).set { k with cell := -1, n := k.n + 1, x := X, y := Y } 8 (.int .i64 (Y)) rfl).mo.c6) (fun _ => ?_)
    (try simp only [Act.put, List.setIfInBounds_toArray, List.set_cons_zero, List.set_cons_succ])
    clear hK K
    repeat (first | (refine seq_take (v := ?_) rfl ?_ ?_ ?_; rotate_left 1; rfl; (focus (intro wS hSw; skip; go_simp; first | done | with_reducible rfl)); (try simp only [Act.put, List.setIfInBounds_toArray, List.set_cons_zero, List.set_cons_succ])) | (refine seq_skip rfl ?_ ?_; rfl; (try simp only [Act.put, List.setIfInBounds_toArray, List.set_cons_zero, List.set_cons_succ])))
    refine seq_run rfl (fun K hK => ?_)
    go_simp
    replace H := Lib.hid (((H.out.set { k with cell := -1, n := k.n + 1, x := X } 7 (.int .i64 (X)) rfl).set { k with cell := -1, n := k.n + 1, x := X, y := Y } 8 (.int .i64 (Y)) rfl).set { k with cell := -1, n := k.n + 1, x := X, y := Y, ph := 2 } 9 (.int .i64 (2)) rfl)
    refine hK.out _ _ (H.out.mo.c6) (fun _ => ?_)
    (try simp only [Act.put, List.setIfInBounds_toArray, List.set_cons_zero, List.set_cons_succ])
    clear hK K
    refine seq_done ?_
    (try clear t0 t1 t2 t3 t4 t5 t6 t7 t8 t9 t10 t11 t12 g5 g6 g7 g8 g9 g10 g11 g12)
    obtain ⟨t0, t1, t2, t3, t4, t5, t6, t7, t8, t9, t10, t11, t12, tf⟩ := id H.out.mo
    have g5 := tf 5; have g6 := tf 6; have g7 := tf 7; have g8 := tf 8; have g9 := tf 9; have g10 := tf 10; have g11 := tf 11; have g12 := tf 12
    clear tf
    go_wp2
    go_end0
    exact ⟨rfl, H.out⟩
end

end Go.Proofs.Ytlogcoaajmbfeaa
