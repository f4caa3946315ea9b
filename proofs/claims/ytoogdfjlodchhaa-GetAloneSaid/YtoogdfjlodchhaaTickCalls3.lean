/-
  Contracts of the functions of package tick, continued: by Swap, by the time; a step; how many there are at most. No condition but that numbers fit their kinds.
-/
import Derived.Test.YtoogdfjlodchhaaTickCalls2
namespace Go.Proofs.Ytoogdfjlodchhaa
open Go.RowKit
set_option linter.unusedVariables false

theorem fin_seen (k : Tk) (x y : Int) : (fin k x y).seen = k.seen := by unfold fin; split <;> rfl

section
variable (base : Nat) (w : World) (b p c : Nat) (v : Value) (C : List Int) (L : List Ev) (k : Tk) (nb : Nat) (n : Int)

set_option maxHeartbeats 2000000 in
theorem swap_3 (x : Int) (hs : 3 ≤ k.steps) (hT : IsTk w b k) (hM : IsMem base w p c v C L) (ha : ¬ Foot p c v b) (hl : Lay k.t k.s n) (hnb : (nb : Int) = 2 * n + k.t) (hx : C[nb]? = some x) (hb : base ≤ w.heap.size) (hL : L.length < 1000000000) :
    Calls Try.prog 80 #[pt b, pt p] w (TickPost base w b p c v (fin k k.seen (low x - 1)) C (L ++ [⟨k.who, 0, nb, x, x, true⟩]) (.returned (.tuple #[]))) := by
  have HS := Lib.hid (Stepped.refl hT hM ha hb)
  have HX := Lib.hid hx
  have Hnb := Lib.hid hnb
  have q0 : (k.steps == 0) = false := by simp; omega
  have q1 : (k.steps == 1) = false := by simp; omega
  have q2 : (k.steps == 2) = false := by simp; omega
  have hx0 := low_range x (hM.numAt hx).1
  have hx1 := hx0.2
  replace hx0 := hx0.1
  have EW : Hid (IntKind.i64.wrap (low x - 1) = low x - 1) := by show _ = _; rw [IntWalk.i64_in _ (by omega)]
  clear hM ha hx hnb hs
  obtain ⟨s0, s1, s2, s3, s4, s5, s6, s7, s8, s9, sf⟩ := id hT
  clear sf
  go_enter Try.func80, Try.ntmps80
  go_wp2_with fail
  refine wp_region_seqS ((fun w' => w'.cell? ⟨b, 6, none⟩ = some (i64 k.seen))) ((0, true) :: (1, true) :: (2, true) :: (3, true) :: (4, true) :: (5, true) :: (6, true) :: (7, false) :: (8, true) :: (9, false) :: []) (by kernel_rfl) (by kernel_rfl) (by kernel_rfl) (by decide) (fun _ _ _ _ _ h => h) (hT.drew.c6) ?_
  clear hT s0 s1 s2 s3 s4 s5 s6 s7 s8 s9
  replace HS := Lib.hid HS.out.drew
  repeat (first | (refine seq_take (v := ?_) rfl ?_ ?_ ?_; rotate_left 1; rfl; (focus (intro wS hSw; skip; go_simp; first | done | with_reducible rfl)); (try simp only [Act.put, List.setIfInBounds_toArray, List.set_cons_zero, List.set_cons_succ])) | (refine seq_skip rfl ?_ ?_; rfl; (try simp only [Act.put, List.setIfInBounds_toArray, List.set_cons_zero, List.set_cons_succ])))
  refine seq_run rfl (fun K hK => ?_)
  go_simp
  go_at_call 97
  refine (tload_0 base _ b p c _ C L k nb n x HS.out.tk HS.out.mem HS.out.apart hl Hnb.out HX.out HS.out.size hL).mono ?_
  rintro r w1 ⟨rfl, v1, hS1⟩
  (try go_wp2_with fail)
  replace HS := Lib.hid (HS.out.trans hS1)
  clear hS1
  refine hK.out _ _ (HS.out.tk.c6) (fun _ => ?_)
  (try simp only [Act.put, List.setIfInBounds_toArray, List.set_cons_zero, List.set_cons_succ])
  clear hK K
  repeat (first | (refine seq_take (v := ?_) rfl ?_ ?_ ?_; rotate_left 1; rfl; (focus (intro wS hSw; skip; go_simp; first | done | with_reducible rfl)); (try simp only [Act.put, List.setIfInBounds_toArray, List.set_cons_zero, List.set_cons_succ])) | (refine seq_skip rfl ?_ ?_; rfl; (try simp only [Act.put, List.setIfInBounds_toArray, List.set_cons_zero, List.set_cons_succ])))
  rw [EW.out]
  refine seq_run rfl (fun K hK => ?_)
  go_simp
  go_at_call 96
  refine (finish_any _ b k _ _ HS.out.tk).mono ?_
  rintro r w4 ⟨⟨g, rfl⟩, hT4, hK4⟩
  (try go_wp2_with fail)
  replace HS := Lib.hid (HS.out.own hT4 hK4)
  clear hT4 hK4
  refine hK.out _ _ (HS.out.tk.c6.trans (by rw [fin_seen])) (fun _ => ?_)
  (try simp only [Act.put, List.setIfInBounds_toArray, List.set_cons_zero, List.set_cons_succ])
  clear hK K
  refine seq_done ?_
  go_wp2
  go_end0
  exact ⟨rfl, _, HS.out⟩

set_option maxHeartbeats 2000000 in
theorem swap_2y (x : Int) (hs : k.steps = 2) (hxs : x = k.seen) (e1 : k.seen < 16777215) (hT : IsTk w b k) (hM : IsMem base w p c v C L) (ha : ¬ Foot p c v b) (hl : Lay k.t k.s n) (hnb : (nb : Int) = 2 * n + k.t) (hx : C[nb]? = some x) (hb : base ≤ w.heap.size) (hL : L.length < 1000000000) :
    Calls Try.prog 80 #[pt b, pt p] w (TickPost base w b p c v (fin k k.seen k.seen) (C.set nb (k.seen + 1)) (L ++ [⟨k.who, 2, nb, x, k.seen + 1, true⟩]) (.returned (.tuple #[]))) := by
  have HS := Lib.hid (Stepped.refl hT hM ha hb)
  have HX := Lib.hid hx
  have Hnb := Lib.hid hnb
  have q0 : (k.steps == 0) = false := by simp [hs]
  have q1 : (k.steps == 1) = false := by simp [hs]
  have q2 : (k.steps == 2) = true := by simp [hs]
  have e0 := (hM.numAt hx).1
  have EA : Hid (IntKind.u64.wrap k.seen = x) := by show _ = _; rw [IntKind.wrap_u64, hxs]; omega
  have EW : Hid (IntKind.u64.wrap (x + 1) = k.seen + 1) := by show _ = _; rw [IntKind.wrap_u64, hxs]; omega
  have b0 : 0 ≤ k.seen + 1 := by omega
  clear hM ha hx hnb hs hxs
  obtain ⟨s0, s1, s2, s3, s4, s5, s6, s7, s8, s9, sf⟩ := id hT
  clear sf
  go_enter Try.func80, Try.ntmps80
  go_wp2_with fail
  try rw [EA.out]
  refine wp_region_seqS ((fun w' => IsTk w' b k)) ((0, true) :: (1, true) :: (2, true) :: (3, true) :: (4, true) :: (5, true) :: (6, true) :: (7, true) :: (8, true) :: (10, true) :: (11, true) :: (12, true) :: (9, false) :: (13, false) :: []) (by kernel_rfl) (by kernel_rfl) (by kernel_rfl) (by decide) (fun _ _ _ _ _ h => h) (hT.drew) ?_
  clear hT s0 s1 s2 s3 s4 s5 s6 s7 s8 s9
  replace HS := Lib.hid HS.out.drew
  repeat (first | (refine seq_take (v := ?_) rfl ?_ ?_ ?_; rotate_left 1; rfl; (focus (intro wS hSw; obtain ⟨s0, s1, s2, s3, s4, s5, s6, s7, s8, s9, sf⟩ := hSw; go_simp; first | done | with_reducible rfl)); (try simp only [Act.put, List.setIfInBounds_toArray, List.set_cons_zero, List.set_cons_succ])) | (refine seq_skip rfl ?_ ?_; rfl; (try simp only [Act.put, List.setIfInBounds_toArray, List.set_cons_zero, List.set_cons_succ])))
  refine seq_run rfl (fun K hK => ?_)
  go_simp
  go_at_call 23
  refine (cnum_0 _ _ _ _ n nb _ hl Hnb.out).mono ?_
  rintro r w1 ⟨rfl, hb1⟩
  (try go_wp2_with fail)
  replace HS := Lib.hid (HS.out.later hb1)
  clear hb1
  refine hK.out _ _ (HS.out.tk) (fun _ => ?_)
  (try simp only [Act.put, List.setIfInBounds_toArray, List.set_cons_zero, List.set_cons_succ])
  clear hK K
  repeat (first | (refine seq_take (v := ?_) rfl ?_ ?_ ?_; rotate_left 1; rfl; (focus (intro wS hSw; obtain ⟨s0, s1, s2, s3, s4, s5, s6, s7, s8, s9, sf⟩ := hSw; go_simp; first | done | with_reducible rfl)); (try simp only [Act.put, List.setIfInBounds_toArray, List.set_cons_zero, List.set_cons_succ])) | (refine seq_skip rfl ?_ ?_; rfl; (try simp only [Act.put, List.setIfInBounds_toArray, List.set_cons_zero, List.set_cons_succ])))
  refine seq_run rfl (fun K hK => ?_)
  go_simp
  try rw [EA.out]
  try rw [EW.out]
  go_at_call 91
  refine (swap_yes base _ p c _ _ _ k.who nb x (k.seen + 1) HS.out.mem HX.out HS.out.size hL (by omega) (by omega)).mono ?_
  rintro r w2 ⟨rfl, v2, hT2⟩
  (try go_wp2_with fail)
  replace HS := Lib.hid (HS.out.cells hT2)
  clear hT2
  refine hK.out _ _ (HS.out.tk) (fun _ => ?_)
  (try simp only [Act.put, List.setIfInBounds_toArray, List.set_cons_zero, List.set_cons_succ])
  clear hK K
  repeat (first | (refine seq_take (v := ?_) rfl ?_ ?_ ?_; rotate_left 1; rfl; (focus (intro wS hSw; obtain ⟨s0, s1, s2, s3, s4, s5, s6, s7, s8, s9, sf⟩ := hSw; go_simp; first | done | with_reducible rfl)); (try simp only [Act.put, List.setIfInBounds_toArray, List.set_cons_zero, List.set_cons_succ])) | (refine seq_skip rfl ?_ ?_; rfl; (try simp only [Act.put, List.setIfInBounds_toArray, List.set_cons_zero, List.set_cons_succ])))
  refine seq_done ?_
  go_wp2_with fail
  refine wp_region_seqS ((fun w' => w'.cell? ⟨b, 6, none⟩ = some (i64 k.seen))) ((0, true) :: (1, true) :: (2, true) :: (3, true) :: (4, true) :: (5, true) :: (6, true) :: (7, true) :: (8, true) :: (9, false) :: []) (by kernel_rfl) (by kernel_rfl) (by kernel_rfl) (by decide) (fun _ _ _ _ _ h => h) (HS.out.tk.drew.c6) ?_
  replace HS := Lib.hid HS.out.drew
  repeat (first | (refine seq_take (v := ?_) rfl ?_ ?_ ?_; rotate_left 1; rfl; (focus (intro wS hSw; skip; go_simp; first | done | with_reducible rfl)); (try simp only [Act.put, List.setIfInBounds_toArray, List.set_cons_zero, List.set_cons_succ])) | (refine seq_skip rfl ?_ ?_; rfl; (try simp only [Act.put, List.setIfInBounds_toArray, List.set_cons_zero, List.set_cons_succ])))
  refine seq_run rfl (fun K hK => ?_)
  go_simp
  go_at_call 96
  refine (finish_any _ b k _ _ HS.out.tk).mono ?_
  rintro r w4 ⟨⟨g, rfl⟩, hT4, hK4⟩
  (try go_wp2_with fail)
  replace HS := Lib.hid (HS.out.own hT4 hK4)
  clear hT4 hK4
  refine hK.out _ _ (HS.out.tk.c6.trans (by rw [fin_seen])) (fun _ => ?_)
  (try simp only [Act.put, List.setIfInBounds_toArray, List.set_cons_zero, List.set_cons_succ])
  clear hK K
  refine seq_done ?_
  go_wp2
  go_end0
  exact ⟨rfl, _, HS.out⟩

set_option maxHeartbeats 2000000 in
theorem swap_2n (x : Int) (hs : k.steps = 2) (hxs : x ≠ k.seen) (e0 : 0 ≤ k.seen) (e1 : k.seen < 16777215) (hT : IsTk w b k) (hM : IsMem base w p c v C L) (ha : ¬ Foot p c v b) (hl : Lay k.t k.s n) (hnb : (nb : Int) = 2 * n + k.t) (hx : C[nb]? = some x) (hb : base ≤ w.heap.size) (hL : L.length < 1000000000) :
    Calls Try.prog 80 #[pt b, pt p] w (TickPost base w b p c v k C (L ++ [⟨k.who, 2, nb, x, x, false⟩]) (.returned (.tuple #[]))) := by
  have HS := Lib.hid (Stepped.refl hT hM ha hb)
  have HX := Lib.hid hx
  have Hnb := Lib.hid hnb
  have q0 : (k.steps == 0) = false := by simp [hs]
  have q1 : (k.steps == 1) = false := by simp [hs]
  have q2 : (k.steps == 2) = true := by simp [hs]
  have EA : Hid (IntKind.u64.wrap k.seen = k.seen) := by show _ = _; rw [IntKind.wrap_u64]; omega
  have HN := Lib.hid hxs
  clear hM ha hx hnb hs hxs
  obtain ⟨s0, s1, s2, s3, s4, s5, s6, s7, s8, s9, sf⟩ := id hT
  clear sf
  go_enter Try.func80, Try.ntmps80
  go_wp2_with fail
  try rw [EA.out]
  refine wp_region_seqS ((fun w' => IsTk w' b k)) ((0, true) :: (1, true) :: (2, true) :: (3, true) :: (4, true) :: (5, true) :: (6, true) :: (7, true) :: (8, true) :: (10, true) :: (11, true) :: (12, true) :: (9, false) :: (13, false) :: []) (by kernel_rfl) (by kernel_rfl) (by kernel_rfl) (by decide) (fun _ _ _ _ _ h => h) (hT.drew) ?_
  clear hT s0 s1 s2 s3 s4 s5 s6 s7 s8 s9
  replace HS := Lib.hid HS.out.drew
  repeat (first | (refine seq_take (v := ?_) rfl ?_ ?_ ?_; rotate_left 1; rfl; (focus (intro wS hSw; obtain ⟨s0, s1, s2, s3, s4, s5, s6, s7, s8, s9, sf⟩ := hSw; go_simp; first | done | with_reducible rfl)); (try simp only [Act.put, List.setIfInBounds_toArray, List.set_cons_zero, List.set_cons_succ])) | (refine seq_skip rfl ?_ ?_; rfl; (try simp only [Act.put, List.setIfInBounds_toArray, List.set_cons_zero, List.set_cons_succ])))
  refine seq_run rfl (fun K hK => ?_)
  go_simp
  go_at_call 23
  refine (cnum_0 _ _ _ _ n nb _ hl Hnb.out).mono ?_
  rintro r w1 ⟨rfl, hb1⟩
  (try go_wp2_with fail)
  replace HS := Lib.hid (HS.out.later hb1)
  clear hb1
  refine hK.out _ _ (HS.out.tk) (fun _ => ?_)
  (try simp only [Act.put, List.setIfInBounds_toArray, List.set_cons_zero, List.set_cons_succ])
  clear hK K
  repeat (first | (refine seq_take (v := ?_) rfl ?_ ?_ ?_; rotate_left 1; rfl; (focus (intro wS hSw; obtain ⟨s0, s1, s2, s3, s4, s5, s6, s7, s8, s9, sf⟩ := hSw; go_simp; first | done | with_reducible rfl)); (try simp only [Act.put, List.setIfInBounds_toArray, List.set_cons_zero, List.set_cons_succ])) | (refine seq_skip rfl ?_ ?_; rfl; (try simp only [Act.put, List.setIfInBounds_toArray, List.set_cons_zero, List.set_cons_succ])))
  refine seq_run rfl (fun K hK => ?_)
  go_simp
  try rw [EA.out]
  go_at_call 91
  refine (swap_no base _ p c _ _ _ k.who nb x k.seen _ HS.out.mem HX.out HS.out.size hL HN.out).mono ?_
  rintro r w2 ⟨rfl, v2, hT2⟩
  (try go_wp2_with fail)
  replace HS := Lib.hid (HS.out.cells hT2)
  clear hT2
  refine hK.out _ _ (HS.out.tk) (fun _ => ?_)
  (try simp only [Act.put, List.setIfInBounds_toArray, List.set_cons_zero, List.set_cons_succ])
  clear hK K
  repeat (first | (refine seq_take (v := ?_) rfl ?_ ?_ ?_; rotate_left 1; rfl; (focus (intro wS hSw; obtain ⟨s0, s1, s2, s3, s4, s5, s6, s7, s8, s9, sf⟩ := hSw; go_simp; first | done | with_reducible rfl)); (try simp only [Act.put, List.setIfInBounds_toArray, List.set_cons_zero, List.set_cons_succ])) | (refine seq_skip rfl ?_ ?_; rfl; (try simp only [Act.put, List.setIfInBounds_toArray, List.set_cons_zero, List.set_cons_succ])))
  refine seq_done ?_
  go_wp2
  go_end0
  exact ⟨rfl, _, HS.out⟩

theorem low_min (x : Int) (h : 0 ≤ x) : 0 ≤ low x ∧ low x ≤ 16777215 := low_range x h

set_option maxHeartbeats 2000000 in
theorem time_go (u : Int) (hso : k.so = 4) (hst : k.steps ≤ k.d) (hT : IsTk w b k) :
    Calls Try.prog 81 #[pt b, i64 u] w fun r w' => r = .returned (.tuple #[]) ∧ IsTk w' b { k with seen := if k.steps = 0 then u else k.seen } ∧ Keep (· = b) w w' := by
  have q4 : (k.so == 4) = true := by simp [hso]
  have q3 : (k.so == 3) = false := by simp [hso]
  clear hso
  obtain ⟨s0, s1, s2, s3, s4, s5, s6, s7, s8, s9, sf⟩ := id hT
  have f6 := sf 6
  clear sf
  have HT := Lib.hid hT
  clear hT
  have h2 : ((k.steps == 0) = true ∧ k.steps = 0) ∨ ((k.steps == 0) = false ∧ ¬ k.steps = 0) := by
    by_cases h : k.steps = 0
    · exact .inl ⟨by simp [h], h⟩
    · exact .inr ⟨by simp [h], h⟩
  rcases h2 with ⟨q0, h0⟩ | ⟨q0, h0⟩
  · rw [if_pos h0]
    clear h0
    go_enter Try.func81, Try.ntmps81
    go_wp2_with fail
    have hT1 := setTk HT.out (k' := { k with seen := u }) 6 (.int .i64 u) rfl
    have HT1 := Lib.hid hT1
    have HK1 : Hid (Keep (· = b) w (w.setCell ⟨b, 6, none⟩ (.int .i64 u))) := (Keep.refl _ _).own 6 _
    clear s0 s1 s2 s3 s4 s5 s6 s7 s8 s9 f6
    obtain ⟨s0, s1, s2, s3, s4, s5, s6, s7, s8, s9, sf⟩ := id hT1
    clear sf hT1
    refine wp_region_seqS ((fun w' => IsTk w' b { k with seen := u })) ((0, true) :: (1, true) :: (2, true) :: (3, true) :: (4, true) :: (5, true) :: (6, true) :: (7, true) :: (8, true) :: (9, true) :: []) (by kernel_rfl) (by kernel_rfl) (by kernel_rfl) (by decide) (fun _ _ _ _ _ h => h) (HT1.out.drew) ?_
    repeat (first | (refine seq_take (v := ?_) rfl ?_ ?_ ?_; rotate_left 1; rfl; (focus (intro wS hSw; obtain ⟨s0, s1, s2, s3, s4, s5, s6, s7, s8, s9, sf⟩ := hSw; go_simp; first | done | with_reducible rfl)); (try simp only [Act.put, List.setIfInBounds_toArray, List.set_cons_zero, List.set_cons_succ])) | (refine seq_skip rfl ?_ ?_; rfl; (try simp only [Act.put, List.setIfInBounds_toArray, List.set_cons_zero, List.set_cons_succ])))
    refine seq_done ?_
    go_wp2
    go_end0
    exact ⟨rfl, HT1.out.drew, HK1.out.drew⟩
  · rw [if_neg h0]
    clear h0
    go_enter Try.func81, Try.ntmps81
    go_wp2_with fail
    refine wp_region_seqS ((fun w' => IsTk w' b k)) ((0, true) :: (1, true) :: (2, true) :: (3, true) :: (4, true) :: (5, true) :: (6, true) :: (7, true) :: (8, true) :: (9, true) :: []) (by kernel_rfl) (by kernel_rfl) (by kernel_rfl) (by decide) (fun _ _ _ _ _ h => h) (HT.out.drew) ?_
    repeat (first | (refine seq_take (v := ?_) rfl ?_ ?_ ?_; rotate_left 1; rfl; (focus (intro wS hSw; obtain ⟨s0, s1, s2, s3, s4, s5, s6, s7, s8, s9, sf⟩ := hSw; go_simp; first | done | with_reducible rfl)); (try simp only [Act.put, List.setIfInBounds_toArray, List.set_cons_zero, List.set_cons_succ])) | (refine seq_skip rfl ?_ ?_; rfl; (try simp only [Act.put, List.setIfInBounds_toArray, List.set_cons_zero, List.set_cons_succ])))
    refine seq_done ?_
    go_wp2
    go_end0
    exact ⟨rfl, HT.out.drew, (Keep.refl _ _).drew⟩

set_option maxHeartbeats 2000000 in
theorem time_fin (u : Int) (hso : k.so = 3 ∨ (k.so = 4 ∧ k.d < k.steps)) (hT : IsTk w b k) :
    Calls Try.prog 81 #[pt b, i64 u] w fun r w' => r = .returned (.tuple #[]) ∧ IsTk w' b (fin { k with seen := if k.steps = 0 then u else k.seen } (if k.steps = 0 then u else k.seen) u) ∧ Keep (· = b) w w' := by
  obtain ⟨s0, s1, s2, s3, s4, s5, s6, s7, s8, s9, sf⟩ := id hT
  have f6 := sf 6
  clear sf
  have HT := Lib.hid hT
  clear hT
  have h2 : ((k.steps == 0) = true ∧ k.steps = 0) ∨ ((k.steps == 0) = false ∧ ¬ k.steps = 0) := by
    by_cases h : k.steps = 0
    · exact .inl ⟨by simp [h], h⟩
    · exact .inr ⟨by simp [h], h⟩
  have h3 : ((k.so == 4) = false ∧ (k.so == 3) = true ∧ k.so = 3) ∨ ((k.so == 4) = true ∧ (k.so == 3) = false ∧ ¬ (k.steps ≤ k.d)) := by
    rcases hso with h | ⟨h, h'⟩
    · exact .inl ⟨by simp [h], by simp [h], h⟩
    · exact .inr ⟨by simp [h], by simp [h], by omega⟩
  clear hso
  rcases h3 with ⟨q4, q3, h4⟩ | ⟨q4, q3, hst⟩
  · clear h4
    rcases h2 with ⟨q0, h0⟩ | ⟨q0, h0⟩
    · rw [if_pos h0]
      clear h0
      go_enter Try.func81, Try.ntmps81
      go_wp2_with fail
      have HT1 := Lib.hid (setTk HT.out (k' := { k with seen := u }) 6 (.int .i64 u) rfl)
      have HK1 : Hid (Keep (· = b) w (w.setCell ⟨b, 6, none⟩ (.int .i64 u))) := (Keep.refl _ _).own 6 _
      refine (finish_any _ b _ _ _ HT1.out).mono ?_
      rintro r w4 ⟨⟨g, rfl⟩, hT4, hK4⟩
      go_wp2
      go_end0
      exact ⟨rfl, hT4, HK1.out.trans hK4⟩
    · rw [if_neg h0]
      clear h0
      go_enter Try.func81, Try.ntmps81
      go_wp2_with fail
      refine (finish_any _ b _ _ _ HT.out).mono ?_
      rintro r w4 ⟨⟨g, rfl⟩, hT4, hK4⟩
      go_wp2
      go_end0
      exact ⟨rfl, hT4, hK4⟩
  · rcases h2 with ⟨q0, h0⟩ | ⟨q0, h0⟩
    · rw [if_pos h0]
      clear h0
      go_enter Try.func81, Try.ntmps81
      go_wp2_with fail
      have hT1 := setTk HT.out (k' := { k with seen := u }) 6 (.int .i64 u) rfl
      have HT1 := Lib.hid hT1
      have HK1 : Hid (Keep (· = b) w (w.setCell ⟨b, 6, none⟩ (.int .i64 u))) := (Keep.refl _ _).own 6 _
      clear s0 s1 s2 s3 s4 s5 s6 s7 s8 s9 f6
      obtain ⟨s0, s1, s2, s3, s4, s5, s6, s7, s8, s9, sf⟩ := id hT1
      clear sf hT1
      refine wp_region_seqS ((fun w' => IsTk w' b { k with seen := u })) ((0, true) :: (1, true) :: (2, true) :: (3, true) :: (4, true) :: (5, true) :: (6, true) :: (7, true) :: (8, true) :: (9, true) :: []) (by kernel_rfl) (by kernel_rfl) (by kernel_rfl) (by decide) (fun _ _ _ _ _ h => h) (HT1.out.drew) ?_
      clear s0 s1 s2 s3 s4 s5 s6 s7 s8 s9
      repeat (first | (refine seq_take (v := ?_) rfl ?_ ?_ ?_; rotate_left 1; rfl; (focus (intro wS hSw; obtain ⟨s0, s1, s2, s3, s4, s5, s6, s7, s8, s9, sf⟩ := hSw; go_simp; first | done | with_reducible rfl)); (try simp only [Act.put, List.setIfInBounds_toArray, List.set_cons_zero, List.set_cons_succ])) | (refine seq_skip rfl ?_ ?_; rfl; (try simp only [Act.put, List.setIfInBounds_toArray, List.set_cons_zero, List.set_cons_succ])))
      refine seq_done ?_
      obtain ⟨s0, s1, s2, s3, s4, s5, s6, s7, s8, s9, sf⟩ := id HT1.out.drew
      clear sf
      go_wp2_with fail
      refine (finish_any _ b _ _ _ HT1.out.drew).mono ?_
      rintro r w4 ⟨⟨g, rfl⟩, hT4, hK4⟩
      go_wp2
      go_end0
      exact ⟨rfl, hT4, HK1.out.drew.trans hK4⟩
    · rw [if_neg h0]
      clear h0
      go_enter Try.func81, Try.ntmps81
      go_wp2_with fail
      refine wp_region_seqS ((fun w' => IsTk w' b k)) ((0, true) :: (1, true) :: (2, true) :: (3, true) :: (4, true) :: (5, true) :: (6, true) :: (7, true) :: (8, true) :: (9, true) :: []) (by kernel_rfl) (by kernel_rfl) (by kernel_rfl) (by decide) (fun _ _ _ _ _ h => h) (HT.out.drew) ?_
      clear s0 s1 s2 s3 s4 s5 s6 s7 s8 s9
      repeat (first | (refine seq_take (v := ?_) rfl ?_ ?_ ?_; rotate_left 1; rfl; (focus (intro wS hSw; obtain ⟨s0, s1, s2, s3, s4, s5, s6, s7, s8, s9, sf⟩ := hSw; go_simp; first | done | with_reducible rfl)); (try simp only [Act.put, List.setIfInBounds_toArray, List.set_cons_zero, List.set_cons_succ])) | (refine seq_skip rfl ?_ ?_; rfl; (try simp only [Act.put, List.setIfInBounds_toArray, List.set_cons_zero, List.set_cons_succ])))
      refine seq_done ?_
      obtain ⟨s0, s1, s2, s3, s4, s5, s6, s7, s8, s9, sf⟩ := id HT.out.drew
      clear sf
      go_wp2_with fail
      refine (finish_any _ b _ _ _ HT.out.drew).mono ?_
      rintro r w4 ⟨⟨g, rfl⟩, hT4, hK4⟩
      go_wp2
      go_end0
      exact ⟨rfl, hT4, (Keep.refl _ _).drew.trans hK4⟩
end

end Go.Proofs.Ytoogdfjlodchhaa
