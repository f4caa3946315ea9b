/-
  Contracts of the functions of package tick, continued: by Stutter, by Swap, by the time. No condition but that numbers fit their kinds.
-/
import Derived.Test.YtoogdfjlodchhaaTickCalls
namespace Go.Proofs.Ytoogdfjlodchhaa
open Go.RowKit
set_option linter.unusedVariables false

section
variable (base : Nat) (w : World) (b p c : Nat) (v : Value) (C : List Int) (L : List Ev) (k : Tk) (nb : Nat) (n : Int)

theorem tload_at (i : Int) (j : Nat) (hi : i = (j : Int)) (x : Int) (hT : IsTk w b k) (hM : IsMem base w p c v C L) (ha : ¬ Foot p c v b) (hl : Lay k.t k.s n) (hnb : (nb : Int) = 2 * n + k.t) (hj : (j : Int) ≤ k.t) (hx : C[nb + j]? = some x) (hb : base ≤ w.heap.size) (hL : L.length < 1000000000) :
    Calls Try.prog 97 #[pt b, pt p, i64 i] w (TickPost base w b p c v k C (L ++ [⟨k.who, 0, (nb + j : Nat), x, x, true⟩]) (.returned (i64 (low x)))) := by
  subst hi
  exact tload_any base w b p c v C L k nb n j x hT hM ha hl hnb hj hx hb hL
theorem tload_0 (x : Int) (hT : IsTk w b k) (hM : IsMem base w p c v C L) (ha : ¬ Foot p c v b) (hl : Lay k.t k.s n) (hnb : (nb : Int) = 2 * n + k.t) (hx : C[nb]? = some x) (hb : base ≤ w.heap.size) (hL : L.length < 1000000000) :
    Calls Try.prog 97 #[pt b, pt p, i64 0] w (TickPost base w b p c v k C (L ++ [⟨k.who, 0, nb, x, x, true⟩]) (.returned (i64 (low x)))) :=
  tload_any base w b p c v C L k nb n 0 x hT hM ha hl hnb (by have := hl.t1; omega) hx hb hL

set_option maxHeartbeats 2000000 in
theorem stutter_load (j : Nat) (x : Int) (hj : k.steps = (j : Int)) (hlt : k.steps < k.t) (hT : IsTk w b k) (hM : IsMem base w p c v C L) (ha : ¬ Foot p c v b) (hl : Lay k.t k.s n) (hnb : (nb : Int) = 2 * n + k.t) (hx : C[nb + j]? = some x) (hb : base ≤ w.heap.size) (hL : L.length < 1000000000) :
    Calls Try.prog 79 #[pt b, pt p] w (TickPost base w b p c v { k with seen := max k.seen (low x) } C (L ++ [⟨k.who, 0, (nb + j : Nat), x, x, true⟩]) (.returned (.tuple #[]))) := by
  have HS := Lib.hid (Stepped.refl hT hM ha hb)
  have HX := Lib.hid hx
  have Hnb := Lib.hid hnb
  have Hj := Lib.hid hj
  have hjt : (j : Int) ≤ k.t := by omega
  clear hM ha hx hnb hj
  go_enter Try.func79, Try.ntmps79
  go_wp2_with fail
  refine wp_region_seqS ((fun w' => IsTk w' b k)) ((0, true) :: (1, true) :: (2, true) :: (3, true) :: (4, true) :: (5, true) :: (6, true) :: (7, true) :: (8, true) :: (9, true) :: []) (by kernel_rfl) (by kernel_rfl) (by kernel_rfl) (by decide) (fun _ _ _ _ _ h => h) (hT.drew) ?_
  clear hT
  repeat (first | (refine seq_take (v := ?_) rfl ?_ ?_ ?_; rotate_left 1; rfl; (focus (intro wS hSw; obtain ⟨s0, s1, s2, s3, s4, s5, s6, s7, s8, s9, sf⟩ := hSw; go_simp; first | done | with_reducible rfl)); (try simp only [Act.put, List.setIfInBounds_toArray, List.set_cons_zero, List.set_cons_succ])) | (refine seq_skip rfl ?_ ?_; rfl; (try simp only [Act.put, List.setIfInBounds_toArray, List.set_cons_zero, List.set_cons_succ])))
  refine seq_done ?_
  replace HS := Lib.hid HS.out.drew
  obtain ⟨s0, s1, s2, s3, s4, s5, s6, s7, s8, s9, sf⟩ := id HS.out.tk
  have f6 := sf 6
  clear sf
  go_wp2_with fail
  replace HS := Lib.hid HS.out.drew
  go_region_law (go_simp; go_at_call 97; refine (tload_at base _ b p c _ C L k nb n _ j Hj.out x HS.out.tk HS.out.mem HS.out.apart hl Hnb.out hjt HX.out HS.out.size hL).mono ?_; rintro r w1 ⟨rfl, v1, hS1⟩; obtain ⟨t0, t1, t2, t3, t4, t5, t6, t7, t8, t9, tf⟩ := id hS1.tk; have g6 := tf 6; clear tf)
  all_goals
    replace HS := Lib.hid (HS.out.trans hS1)
    clear hS1
    go_wp2
  all_goals
    go_end0
    first
    | (rw [show max k.seen (low x) = low x by omega]
       exact ⟨rfl, _, HS.out.own (setTk HS.out.tk (k' := { k with seen := low x }) 6 (.int .i64 (low x)) rfl) ((Keep.refl _ _).own 6 _)⟩)
    | (rw [show max k.seen (low x) = k.seen by omega]
       exact ⟨rfl, _, HS.out.own (setTk HS.out.tk (k' := { k with seen := k.seen }) 6 (.int .i64 k.seen) rfl) ((Keep.refl _ _).own 6 _)⟩)

theorem Stepped.out {base : Nat} {w w1 : World} {b p c : Nat} {v v1 : Value} {k : Tk} {C : List Int} {L : List Ev} (h : Stepped base w w1 b p c v v1 k C L) : IsTk w1 b k ∧ w1.frozen? ⟨b, 5, none⟩ = false ∧ w1.frozen? ⟨b, 6, none⟩ = false ∧ w1.frozen? ⟨b, 7, none⟩ = false := ⟨h.tk, h.tk.fz 5, h.tk.fz 6, h.tk.fz 7⟩

set_option maxHeartbeats 2000000 in
theorem stutter_full (hge : k.t ≤ k.steps) (e0 : 0 ≤ k.seen) (e1 : k.seen ≤ 16777215) (hfull : 16777215 ≤ k.seen + 1) (hT : IsTk w b k) (hM : IsMem base w p c v C L) (ha : ¬ Foot p c v b) (hb : base ≤ w.heap.size) :
    Calls Try.prog 79 #[pt b, pt p] w (TickPost base w b p c v { k with ph := 2 } C L (.returned (.tuple #[]))) := by
  have HS := Lib.hid (Stepped.refl hT hM ha hb)
  have hge' : ¬ k.steps < k.t := by omega
  clear hM ha
  go_enter Try.func79, Try.ntmps79
  go_wp2_with fail
  refine wp_region_seqS ((fun w' => IsTk w' b k)) ((0, true) :: (1, true) :: (2, true) :: (3, true) :: (4, true) :: (5, true) :: (6, true) :: (7, true) :: (8, true) :: (9, true) :: []) (by kernel_rfl) (by kernel_rfl) (by kernel_rfl) (by decide) (fun _ _ _ _ _ h => h) (hT.drew) ?_
  clear hT
  repeat (first | (refine seq_take (v := ?_) rfl ?_ ?_ ?_; rotate_left 1; rfl; (focus (intro wS hSw; obtain ⟨s0, s1, s2, s3, s4, s5, s6, s7, s8, s9, sf⟩ := hSw; go_simp; first | done | with_reducible rfl)); (try simp only [Act.put, List.setIfInBounds_toArray, List.set_cons_zero, List.set_cons_succ])) | (refine seq_skip rfl ?_ ?_; rfl; (try simp only [Act.put, List.setIfInBounds_toArray, List.set_cons_zero, List.set_cons_succ])))
  refine seq_done ?_
  replace HS := Lib.hid HS.out.drew
  obtain ⟨s0, s1, s2, s3, s4, s5, s6, s7, s8, s9, sf⟩ := id HS.out.tk
  clear sf
  go_wp2_with fail
  refine (finish_no _ b k _ _ HS.out.tk (by omega)).mono ?_
  rintro r w1 ⟨rfl, hT1, hK1⟩
  replace HS := Lib.hid (HS.out.own hT1 hK1)
  clear hT1 hK1 s0 s1 s2 s3 s4 s5 s6 s7 s8 s9
  go_wp2
  go_end0
  exact ⟨rfl, _, HS.out⟩

set_option maxHeartbeats 2000000 in
theorem stutter_done (j : Nat) (x : Int) (hj : k.who = (j : Int)) (hjt : k.who < k.t) (hge : k.t ≤ k.steps) (e0 : 0 ≤ k.seen) (hfull : k.seen + 1 < 16777215) (hT : IsTk w b k) (hM : IsMem base w p c v C L) (ha : ¬ Foot p c v b) (hl : Lay k.t k.s n) (hnb : (nb : Int) = 2 * n + k.t) (hx : C[nb + j]? = some x) (hb : base ≤ w.heap.size) (hL : L.length < 1000000000) :
    Calls Try.prog 79 #[pt b, pt p] w (TickPost base w b p c v { k with ph := 1, lo := k.seen + 1, hi := k.seen + 1 } (C.set (nb + j) (k.seen + 1)) (L ++ [⟨k.who, 1, (nb + j : Nat), x, k.seen + 1, true⟩]) (.returned (.tuple #[]))) := by
  have HS := Lib.hid (Stepped.refl hT hM ha hb)
  have HX := Lib.hid hx
  have Hnb := Lib.hid hnb
  have hjt' : (j : Int) ≤ k.t := by omega
  have HN := fun W => cnum_at k.t k.s k.so k.d n nb j W hl hnb hjt'
  rw [← hj] at HN
  have EW : Hid (IntKind.u64.wrap (k.seen + 1) = k.seen + 1) := by show _ = _; rw [IntKind.wrap_u64]; omega
  replace HN := Lib.hid HN
  have hge' : ¬ k.steps < k.t := by omega
  clear hM ha hx hnb hj
  go_enter Try.func79, Try.ntmps79
  go_wp2_with fail
  refine wp_region_seqS ((fun w' => IsTk w' b k)) ((0, true) :: (1, true) :: (2, true) :: (3, true) :: (4, true) :: (5, true) :: (6, true) :: (7, true) :: (8, true) :: (9, true) :: []) (by kernel_rfl) (by kernel_rfl) (by kernel_rfl) (by decide) (fun _ _ _ _ _ h => h) (hT.drew) ?_
  clear hT
  repeat (first | (refine seq_take (v := ?_) rfl ?_ ?_ ?_; rotate_left 1; rfl; (focus (intro wS hSw; obtain ⟨s0, s1, s2, s3, s4, s5, s6, s7, s8, s9, sf⟩ := hSw; go_simp; first | done | with_reducible rfl)); (try simp only [Act.put, List.setIfInBounds_toArray, List.set_cons_zero, List.set_cons_succ])) | (refine seq_skip rfl ?_ ?_; rfl; (try simp only [Act.put, List.setIfInBounds_toArray, List.set_cons_zero, List.set_cons_succ])))
  refine seq_done ?_
  replace HS := Lib.hid HS.out.drew
  obtain ⟨s0, s1, s2, s3, s4, s5, s6, s7, s8, s9, sf⟩ := id HS.out.tk
  clear sf
  go_wp2_with fail
  refine (finish_yes _ b k _ _ HS.out.tk (by omega)).mono ?_
  rintro r w1 ⟨rfl, hT1, hK1⟩
  replace HS := Lib.hid (HS.out.own hT1 hK1)
  clear hT1 hK1 s0 s1 s2 s3 s4 s5 s6 s7 s8 s9
  go_wp2_with fail
  refine wp_region_seqS ((fun w' => IsTk w' b { k with ph := 1, lo := k.seen + 1, hi := k.seen + 1 })) ((0, true) :: (1, true) :: (2, true) :: (3, true) :: (4, true) :: (5, true) :: (6, true) :: (7, true) :: (8, true) :: (9, true) :: (10, true) :: (11, true) :: (12, true) :: (14, true) :: (15, true) :: (13, false) :: (16, false) :: []) (by kernel_rfl) (by kernel_rfl) (by kernel_rfl) (by decide) (fun _ _ _ _ _ h => h) (HS.out.drew.tk) ?_
  repeat (first | (refine seq_take (v := ?_) rfl ?_ ?_ ?_; rotate_left 1; rfl; (focus (intro wS hSw; obtain ⟨s0, s1, s2, s3, s4, s5, s6, s7, s8, s9, sf⟩ := hSw; go_simp; first | done | with_reducible rfl)); (try simp only [Act.put, List.setIfInBounds_toArray, List.set_cons_zero, List.set_cons_succ])) | (refine seq_skip rfl ?_ ?_; rfl; (try simp only [Act.put, List.setIfInBounds_toArray, List.set_cons_zero, List.set_cons_succ])))
  refine seq_run rfl (fun K hK => ?_)
  go_simp
  go_at_call 23
  refine (HN.out _).mono ?_
  rintro r w1 ⟨rfl, hb1⟩
  (try go_wp2_with fail)
  replace HS := Lib.hid (HS.out.drew.later hb1)
  clear hb1
  refine hK.out _ _ (HS.out.tk) (fun _ => ?_)
  (try simp only [Act.put, List.setIfInBounds_toArray, List.set_cons_zero, List.set_cons_succ])
  clear hK K
  repeat (first | (refine seq_take (v := ?_) rfl ?_ ?_ ?_; rotate_left 1; rfl; (focus (intro wS hSw; obtain ⟨s0, s1, s2, s3, s4, s5, s6, s7, s8, s9, sf⟩ := hSw; go_simp; first | done | with_reducible rfl)); (try simp only [Act.put, List.setIfInBounds_toArray, List.set_cons_zero, List.set_cons_succ])) | (refine seq_skip rfl ?_ ?_; rfl; (try simp only [Act.put, List.setIfInBounds_toArray, List.set_cons_zero, List.set_cons_succ])))
  refine seq_run rfl (fun K hK => ?_)
  go_simp
  go_at_call 22
  rw [EW.out]
  refine (store_in base _ p c _ _ _ k.who (nb + j) x _ HS.out.mem HX.out HS.out.size hL (by omega) (by omega)).mono ?_
  rintro r w2 ⟨rfl, v2, hT2⟩
  (try go_wp2_with fail)
  replace HS := Lib.hid (HS.out.cells hT2)
  clear hT2
  refine hK.out _ _ (HS.out.tk) (fun _ => ?_)
  (try simp only [Act.put, List.setIfInBounds_toArray, List.set_cons_zero, List.set_cons_succ])
  clear hK K
  refine seq_done ?_
  go_wp2
  go_end0
  exact ⟨rfl, _, HS.out⟩

set_option maxHeartbeats 2000000 in
theorem swap_0 (x : Int) (hs : k.steps = 0) (hT : IsTk w b k) (hM : IsMem base w p c v C L) (ha : ¬ Foot p c v b) (hl : Lay k.t k.s n) (hnb : (nb : Int) = 2 * n + k.t) (hx : C[nb]? = some x) (hb : base ≤ w.heap.size) (hL : L.length < 1000000000) (hp : k.ph = 0) :
    Calls Try.prog 80 #[pt b, pt p] w (TickPost base w b p c v { k with seen := low x, ph := if low x = 16777215 then 2 else 0 } C (L ++ [⟨k.who, 0, nb, x, x, true⟩]) (.returned (.tuple #[]))) := by
  have HS := Lib.hid (Stepped.refl hT hM ha hb)
  have HX := Lib.hid hx
  have Hnb := Lib.hid hnb
  have q0 : (k.steps == 0) = true := by simp [hs]
  have q3 : (k.steps == 1) = false := by simp [hs]
  have q2 : (k.steps == 2) = false := by simp [hs]
  have Hp := Lib.hid hp
  clear hM ha hx hnb hs hp
  obtain ⟨s0, s1, s2, s3, s4, s5, s6, s7, s8, s9, sf⟩ := id hT
  clear sf hT
  have hf2 : ((low x == 16777215) = true ∧ low x = 16777215) ∨ ((low x == 16777215) = false ∧ ¬ low x = 16777215) := by
    by_cases h : low x = 16777215
    · exact .inl ⟨by simp [h], h⟩
    · exact .inr ⟨by simp [h], h⟩
  rcases hf2 with ⟨qf, hfull⟩ | ⟨qf, hfull⟩
  all_goals
    have Hf := Lib.hid hfull
    clear hfull
    go_enter Try.func80, Try.ntmps80
    go_wp2_with fail
    refine (tload_0 base _ b p c _ C L k nb n x HS.out.tk HS.out.mem HS.out.apart hl Hnb.out HX.out HS.out.size hL).mono ?_
    rintro r w1 ⟨rfl, v1, hS1⟩
    replace HS := Lib.hid (HS.out.trans hS1)
    clear hS1
    obtain ⟨t0, t1, t2, t3, t4, t5, t6, t7, t8, t9, tf⟩ := id HS.out.tk
    have g6 := tf 6
    have g7 := tf 7
    clear tf
    go_wp2
    go_end0
    first
    | (exact ⟨rfl, _, HS.out.own (setTk (setTk HS.out.tk (k' := { k with seen := 16777215 }) 6 (.int .i64 16777215) rfl) (k' := { k with seen := 16777215, ph := 2 }) 7 (.int .i64 2) rfl) (((Keep.refl _ _).own 6 _).own 7 _)⟩)
    | (exact ⟨rfl, _, HS.out.own (setTk HS.out.tk (k' := { k with seen := low x, ph := 0 }) 6 (.int .i64 (low x)) (by rw [← Hp.out]; rfl)) ((Keep.refl _ _).own 6 _)⟩)

set_option maxHeartbeats 2000000 in
theorem swap_1 (x : Int) (hs : k.steps = 1) (hT : IsTk w b k) (hM : IsMem base w p c v C L) (ha : ¬ Foot p c v b) (hl : Lay k.t k.s n) (hnb : (nb : Int) = 2 * n + k.t) (hx : C[nb]? = some x) (hb : base ≤ w.heap.size) (hL : L.length < 1000000000) :
    Calls Try.prog 80 #[pt b, pt p] w (TickPost base w b p c v (if low x = k.seen then k else fin k k.seen (low x - 1)) C (L ++ [⟨k.who, 0, nb, x, x, true⟩]) (.returned (.tuple #[]))) := by
  have HS := Lib.hid (Stepped.refl hT hM ha hb)
  have HX := Lib.hid hx
  have Hnb := Lib.hid hnb
  have q0 : (k.steps == 0) = false := by simp [hs]
  have q1 : (k.steps == 1) = true := by simp [hs]
  have hx0 := low_range x (hM.numAt hx).1
  have hx1 := hx0.2
  replace hx0 := hx0.1
  clear hM ha hx hnb hs
  obtain ⟨s0, s1, s2, s3, s4, s5, s6, s7, s8, s9, sf⟩ := id hT
  clear sf hT
  by_cases hfull : low x = k.seen
  · have Hf := Lib.hid hfull
    have qf : (low x != k.seen) = false := by simp [hfull]
    rw [if_pos hfull]
    clear hfull
    go_enter Try.func80, Try.ntmps80
    go_wp2_with fail
    refine (tload_0 base _ b p c _ C L k nb n x HS.out.tk HS.out.mem HS.out.apart hl Hnb.out HX.out HS.out.size hL).mono ?_
    rintro r w1 ⟨rfl, v1, hS1⟩
    replace HS := Lib.hid (HS.out.trans hS1)
    clear hS1
    obtain ⟨t0, t1, t2, t3, t4, t5, t6, t7, t8, t9, tf⟩ := id HS.out.tk
    clear tf
    go_wp2
    go_end0
    exact ⟨rfl, _, HS.out⟩
  · have Hf := Lib.hid hfull
    have qf : (low x != k.seen) = true := by simp [hfull]
    rw [if_neg hfull]
    clear hfull
    go_enter Try.func80, Try.ntmps80
    go_wp2_with fail
    refine (tload_0 base _ b p c _ C L k nb n x HS.out.tk HS.out.mem HS.out.apart hl Hnb.out HX.out HS.out.size hL).mono ?_
    rintro r w1 ⟨rfl, v1, hS1⟩
    replace HS := Lib.hid (HS.out.trans hS1)
    clear hS1
    obtain ⟨t0, t1, t2, t3, t4, t5, t6, t7, t8, t9, tf⟩ := id HS.out.tk
    clear tf
    go_wp2_with fail
    refine (finish_any _ b k _ _ HS.out.tk).mono ?_
    rintro r w4 ⟨⟨g, rfl⟩, hT4, hK4⟩
    go_wp2
    go_end0
    exact ⟨rfl, _, HS.out.own hT4 hK4⟩
end

end Go.Proofs.Ytoogdfjlodchhaa
