/-
  Contracts of redo of package mem, case by case: what an event tells, done again. No condition but that numbers fit their kinds.
-/
import Derived.Test.YthlmekkijknooaaGreatMemBack
namespace Go.Proofs.YthlmekkijknooaaGreat
open Go.RowKit
set_option linter.unusedVariables false

theorem Touched.later {base : Nat} {w w' w'' : World} {p c : Nat} {v v' : Value} {C L} (h : Touched base w w' p c v v' C L) (hb : Below w'.heap.size w' w'') : Touched base w w'' p c v v' C L :=
  ⟨h.mem.later hb, h.keep.trans (Keep.of_below hb), h.moved⟩

/-- It was told that the event doesn't agree: whatever was noted. -/
def RedoNo (base : Nat) (w : World) (p c : Nat) (v : Value) (n : Nat) (m : Nat) (r : Ending) (w' : World) : Prop :=
  r = .returned (.bool false) ∧ ∃ v' C' L', Touched base w w' p c v v' C' L' ∧ C'.length = n ∧ L'.length ≤ m + 1

section
variable (base : Nat) (w : World) (p c : Nat) (v : Value) (C : List Int) (L : List Ev)

theorem add64_diff (y new : Int) (h0 : 0 ≤ new) (h1 : new ≤ 18446744073709551615) : add64 y (IntKind.u64.wrap (new - y)) = new := by
  unfold add64
  simp only [IntKind.wrap_u64]
  omega

set_option maxHeartbeats 2000000 in
theorem redo_g0 (who : Int) (i : Nat) (y : Int) (hM : IsMem base w p c v C L) (hy : C[i]? = some y) (hb : base ≤ w.heap.size) (hL : L.length < 1000000000)  :
    Calls Tryz.prog 62 #[pt p, Ev.val ⟨who, 0, i, y, y, true⟩] w (MemPost base w p c v (C.set i y) (L ++ [⟨who, 0, i, y, y, true⟩]) (.returned (.bool true))) := by
  have hi := (List.getElem?_eq_some_iff.1 hy).1
  have HI := Lib.hid hi
  have HM := Lib.hid hM
  have Hy := Lib.hid hy
  have HB : Hid (Below w.heap.size w (w.alloc (.cells #[.int .i64 who, .int .i64 0, .int .i64 i, .int .u64 y, .int .u64 y, .bool true] 72))) := below_new (Below.refl _ _) _
  have HS : Hid (base ≤ (w.alloc (.cells #[.int .i64 who, .int .i64 0, .int .i64 i, .int .u64 y, .int .u64 y, .bool true] 72)).heap.size) := Nat.le_trans hb HB.out.size
  clear hM hy hi hb
  go_enter Tryz.func62, Tryz.ntmps62
  go_wp2_with fail
  refine (has_in base _ p c v C L i (HM.out.later HB.out) HI.out).mono ?_
  rintro r w1 ⟨rfl, rfl⟩
  go_wp2_with fail
  refine (load_in base _ p c v C L who i y (HM.out.later HB.out) Hy.out HS.out hL).mono ?_
  rintro r w2 ⟨rfl, v2, hT⟩
  have hv := (AtV.made w ⟨who, 0, i, y, y, true⟩).keep hT.keep (fun h => Nat.lt_irrefl _ (HM.out.foot _ h).2)
  obtain ⟨e0, e1, e2, e3, e4, e5⟩ := hv
  obtain ⟨b, o, cap, c1, hcap, k0, k1, k2, k3, k4, k5⟩ := hT.mem.last.rest
  have HT := Lib.hid (hT.after HB.out)
  clear hT
  have hw1 : IntKind.i64.wrap ((L.length : Int) + 1 - 1) = (L.length : Int) := by rw [IntWalk.i64_in _ (by omega)]; omega
  have hw0 : IntKind.i64.wrap (L.length : Int) = (L.length : Int) := IntWalk.i64_in _ (by omega)
  have hw2 : (0 : Int) ≤ (L.length : Int) := by omega
  have hw3 : (L.length : Int) < (L.length : Int) + 1 := by omega
  go_wp2_with fail
  refine wp_region_seq ((0, true) :: (1, true) :: (2, true) :: (3, true) :: (4, true) :: (5, true) :: (6, true) :: (7, true) :: (8, true) :: (9, true) :: (10, true) :: (11, true) :: (12, true) :: (13, true) :: (14, true) :: []) (by kernel_rfl) (by kernel_rfl) (by kernel_rfl) (by decide) (fun _ _ _ _ _ h => h) (fun hHeld => ?_)
  repeat (first
    | (refine seq_take (v := ?_) rfl ?_ ?_ ?_; rotate_left 1; rfl; (focus (intro wS hSw; have hk := below_rule hSw; go_simp; first | done | with_reducible rfl)); (try simp only [Act.put, List.setIfInBounds_toArray, List.set_cons_zero, List.set_cons_succ]))
    | (refine seq_skip rfl ?_ ?_; rfl; (try simp only [Act.put, List.setIfInBounds_toArray, List.set_cons_zero, List.set_cons_succ]))
    | (refine seq_run rfl (fun K hK => ?_); go_simp; (try skip); (try go_wp2_with fail); refine hK.out _ _ ?_ ?_; (focus (first | exact below_step hHeld hb' | exact below_new hHeld _ | exact hHeld)); (try clear hb'); clear hHeld hK K; intro hHeld; (try simp only [Act.put, List.setIfInBounds_toArray, List.set_cons_zero, List.set_cons_succ])))
  first | refine seq_done ?_ | skip
  go_wp2
  go_ret
  exact ⟨rfl, v2, by rw [set_same Hy.out]; exact HT.out.later hHeld⟩

set_option maxHeartbeats 2000000 in
theorem redo_b0a (who old new : Int) (i : Nat) (y : Int) (hM : IsMem base w p c v C L) (hy : C[i]? = some y) (hb : base ≤ w.heap.size) (hL : L.length < 1000000000) (ok : Bool) (h1 : y ≠ old) :
    Calls Tryz.prog 62 #[pt p, Ev.val ⟨who, 0, i, old, new, ok⟩] w (RedoNo base w p c v C.length L.length) := by
  have hi := (List.getElem?_eq_some_iff.1 hy).1
  have HI := Lib.hid hi
  have HM := Lib.hid hM
  have Hy := Lib.hid hy
  have HB : Hid (Below w.heap.size w (w.alloc (.cells #[.int .i64 who, .int .i64 0, .int .i64 i, .int .u64 old, .int .u64 new, .bool ok] 72))) := below_new (Below.refl _ _) _
  have HS : Hid (base ≤ (w.alloc (.cells #[.int .i64 who, .int .i64 0, .int .i64 i, .int .u64 old, .int .u64 new, .bool ok] 72)).heap.size) := Nat.le_trans hb HB.out.size
  have q1 : (y == old) = false := by simpa using h1
  clear hM hy hi hb
  go_enter Tryz.func62, Tryz.ntmps62
  go_wp2_with fail
  refine (has_in base _ p c v C L i (HM.out.later HB.out) HI.out).mono ?_
  rintro r w1 ⟨rfl, rfl⟩
  go_wp2_with fail
  refine (load_in base _ p c v C L who i y (HM.out.later HB.out) Hy.out HS.out hL).mono ?_
  rintro r w2 ⟨rfl, v2, hT⟩
  have hv := (AtV.made w ⟨who, 0, i, old, new, ok⟩).keep hT.keep (fun h => Nat.lt_irrefl _ (HM.out.foot _ h).2)
  obtain ⟨e0, e1, e2, e3, e4, e5⟩ := hv
  obtain ⟨b, o, cap, c1, hcap, k0, k1, k2, k3, k4, k5⟩ := hT.mem.last.rest
  have HT := Lib.hid (hT.after HB.out)
  clear hT
  have hw1 : IntKind.i64.wrap ((L.length : Int) + 1 - 1) = (L.length : Int) := by rw [IntWalk.i64_in _ (by omega)]; omega
  have hw0 : IntKind.i64.wrap (L.length : Int) = (L.length : Int) := IntWalk.i64_in _ (by omega)
  have hw2 : (0 : Int) ≤ (L.length : Int) := by omega
  have hw3 : (L.length : Int) < (L.length : Int) + 1 := by omega
  go_wp2_with fail
  refine wp_region_seq ((0, true) :: (1, true) :: (2, true) :: (3, true) :: (4, true) :: (5, true) :: (6, true) :: (7, true) :: (8, true) :: (9, true) :: (10, true) :: (11, true) :: (12, true) :: (13, true) :: (14, true) :: []) (by kernel_rfl) (by kernel_rfl) (by kernel_rfl) (by decide) (fun _ _ _ _ _ h => h) (fun hHeld => ?_)
  repeat (first
    | (refine seq_take (v := ?_) rfl ?_ ?_ ?_; rotate_left 1; rfl; (focus (intro wS hSw; have hk := below_rule hSw; go_simp; first | done | with_reducible rfl)); (try simp only [Act.put, List.setIfInBounds_toArray, List.set_cons_zero, List.set_cons_succ]))
    | (refine seq_skip rfl ?_ ?_; rfl; (try simp only [Act.put, List.setIfInBounds_toArray, List.set_cons_zero, List.set_cons_succ]))
    | (refine seq_run rfl (fun K hK => ?_); go_simp; (try skip); (try go_wp2_with fail); refine hK.out _ _ ?_ ?_; (focus (first | exact below_step hHeld hb' | exact below_new hHeld _ | exact hHeld)); (try clear hb'); clear hHeld hK K; intro hHeld; (try simp only [Act.put, List.setIfInBounds_toArray, List.set_cons_zero, List.set_cons_succ])))
  first | refine seq_done ?_ | skip
  go_wp2
  go_ret
  exact ⟨rfl, v2, _, _, HT.out.later hHeld, by simp, by simp⟩

set_option maxHeartbeats 2000000 in
theorem redo_b0b (who new : Int) (i : Nat) (y : Int) (hM : IsMem base w p c v C L) (hy : C[i]? = some y) (hb : base ≤ w.heap.size) (hL : L.length < 1000000000) (ok : Bool) (h1 : y ≠ new) :
    Calls Tryz.prog 62 #[pt p, Ev.val ⟨who, 0, i, y, new, ok⟩] w (RedoNo base w p c v C.length L.length) := by
  have hi := (List.getElem?_eq_some_iff.1 hy).1
  have HI := Lib.hid hi
  have HM := Lib.hid hM
  have Hy := Lib.hid hy
  have HB : Hid (Below w.heap.size w (w.alloc (.cells #[.int .i64 who, .int .i64 0, .int .i64 i, .int .u64 y, .int .u64 new, .bool ok] 72))) := below_new (Below.refl _ _) _
  have HS : Hid (base ≤ (w.alloc (.cells #[.int .i64 who, .int .i64 0, .int .i64 i, .int .u64 y, .int .u64 new, .bool ok] 72)).heap.size) := Nat.le_trans hb HB.out.size
  have q1 : (y == new) = false := by simpa using h1
  clear hM hy hi hb
  go_enter Tryz.func62, Tryz.ntmps62
  go_wp2_with fail
  refine (has_in base _ p c v C L i (HM.out.later HB.out) HI.out).mono ?_
  rintro r w1 ⟨rfl, rfl⟩
  go_wp2_with fail
  refine (load_in base _ p c v C L who i y (HM.out.later HB.out) Hy.out HS.out hL).mono ?_
  rintro r w2 ⟨rfl, v2, hT⟩
  have hv := (AtV.made w ⟨who, 0, i, y, new, ok⟩).keep hT.keep (fun h => Nat.lt_irrefl _ (HM.out.foot _ h).2)
  obtain ⟨e0, e1, e2, e3, e4, e5⟩ := hv
  obtain ⟨b, o, cap, c1, hcap, k0, k1, k2, k3, k4, k5⟩ := hT.mem.last.rest
  have HT := Lib.hid (hT.after HB.out)
  clear hT
  have hw1 : IntKind.i64.wrap ((L.length : Int) + 1 - 1) = (L.length : Int) := by rw [IntWalk.i64_in _ (by omega)]; omega
  have hw0 : IntKind.i64.wrap (L.length : Int) = (L.length : Int) := IntWalk.i64_in _ (by omega)
  have hw2 : (0 : Int) ≤ (L.length : Int) := by omega
  have hw3 : (L.length : Int) < (L.length : Int) + 1 := by omega
  go_wp2_with fail
  refine wp_region_seq ((0, true) :: (1, true) :: (2, true) :: (3, true) :: (4, true) :: (5, true) :: (6, true) :: (7, true) :: (8, true) :: (9, true) :: (10, true) :: (11, true) :: (12, true) :: (13, true) :: (14, true) :: []) (by kernel_rfl) (by kernel_rfl) (by kernel_rfl) (by decide) (fun _ _ _ _ _ h => h) (fun hHeld => ?_)
  repeat (first
    | (refine seq_take (v := ?_) rfl ?_ ?_ ?_; rotate_left 1; rfl; (focus (intro wS hSw; have hk := below_rule hSw; go_simp; first | done | with_reducible rfl)); (try simp only [Act.put, List.setIfInBounds_toArray, List.set_cons_zero, List.set_cons_succ]))
    | (refine seq_skip rfl ?_ ?_; rfl; (try simp only [Act.put, List.setIfInBounds_toArray, List.set_cons_zero, List.set_cons_succ]))
    | (refine seq_run rfl (fun K hK => ?_); go_simp; (try skip); (try go_wp2_with fail); refine hK.out _ _ ?_ ?_; (focus (first | exact below_step hHeld hb' | exact below_new hHeld _ | exact hHeld)); (try clear hb'); clear hHeld hK K; intro hHeld; (try simp only [Act.put, List.setIfInBounds_toArray, List.set_cons_zero, List.set_cons_succ])))
  first | refine seq_done ?_ | skip
  go_wp2
  go_ret
  exact ⟨rfl, v2, _, _, HT.out.later hHeld, by simp, by simp⟩

set_option maxHeartbeats 2000000 in
theorem redo_b0c (who : Int) (i : Nat) (y : Int) (hM : IsMem base w p c v C L) (hy : C[i]? = some y) (hb : base ≤ w.heap.size) (hL : L.length < 1000000000)  :
    Calls Tryz.prog 62 #[pt p, Ev.val ⟨who, 0, i, y, y, false⟩] w (RedoNo base w p c v C.length L.length) := by
  have hi := (List.getElem?_eq_some_iff.1 hy).1
  have HI := Lib.hid hi
  have HM := Lib.hid hM
  have Hy := Lib.hid hy
  have HB : Hid (Below w.heap.size w (w.alloc (.cells #[.int .i64 who, .int .i64 0, .int .i64 i, .int .u64 y, .int .u64 y, .bool false] 72))) := below_new (Below.refl _ _) _
  have HS : Hid (base ≤ (w.alloc (.cells #[.int .i64 who, .int .i64 0, .int .i64 i, .int .u64 y, .int .u64 y, .bool false] 72)).heap.size) := Nat.le_trans hb HB.out.size
  clear hM hy hi hb
  go_enter Tryz.func62, Tryz.ntmps62
  go_wp2_with fail
  refine (has_in base _ p c v C L i (HM.out.later HB.out) HI.out).mono ?_
  rintro r w1 ⟨rfl, rfl⟩
  go_wp2_with fail
  refine (load_in base _ p c v C L who i y (HM.out.later HB.out) Hy.out HS.out hL).mono ?_
  rintro r w2 ⟨rfl, v2, hT⟩
  have hv := (AtV.made w ⟨who, 0, i, y, y, false⟩).keep hT.keep (fun h => Nat.lt_irrefl _ (HM.out.foot _ h).2)
  obtain ⟨e0, e1, e2, e3, e4, e5⟩ := hv
  obtain ⟨b, o, cap, c1, hcap, k0, k1, k2, k3, k4, k5⟩ := hT.mem.last.rest
  have HT := Lib.hid (hT.after HB.out)
  clear hT
  have hw1 : IntKind.i64.wrap ((L.length : Int) + 1 - 1) = (L.length : Int) := by rw [IntWalk.i64_in _ (by omega)]; omega
  have hw0 : IntKind.i64.wrap (L.length : Int) = (L.length : Int) := IntWalk.i64_in _ (by omega)
  have hw2 : (0 : Int) ≤ (L.length : Int) := by omega
  have hw3 : (L.length : Int) < (L.length : Int) + 1 := by omega
  go_wp2_with fail
  refine wp_region_seq ((0, true) :: (1, true) :: (2, true) :: (3, true) :: (4, true) :: (5, true) :: (6, true) :: (7, true) :: (8, true) :: (9, true) :: (10, true) :: (11, true) :: (12, true) :: (13, true) :: (14, true) :: []) (by kernel_rfl) (by kernel_rfl) (by kernel_rfl) (by decide) (fun _ _ _ _ _ h => h) (fun hHeld => ?_)
  repeat (first
    | (refine seq_take (v := ?_) rfl ?_ ?_ ?_; rotate_left 1; rfl; (focus (intro wS hSw; have hk := below_rule hSw; go_simp; first | done | with_reducible rfl)); (try simp only [Act.put, List.setIfInBounds_toArray, List.set_cons_zero, List.set_cons_succ]))
    | (refine seq_skip rfl ?_ ?_; rfl; (try simp only [Act.put, List.setIfInBounds_toArray, List.set_cons_zero, List.set_cons_succ]))
    | (refine seq_run rfl (fun K hK => ?_); go_simp; (try skip); (try go_wp2_with fail); refine hK.out _ _ ?_ ?_; (focus (first | exact below_step hHeld hb' | exact below_new hHeld _ | exact hHeld)); (try clear hb'); clear hHeld hK K; intro hHeld; (try simp only [Act.put, List.setIfInBounds_toArray, List.set_cons_zero, List.set_cons_succ])))
  first | refine seq_done ?_ | skip
  go_wp2
  go_ret
  exact ⟨rfl, v2, _, _, HT.out.later hHeld, by simp, by simp⟩

set_option maxHeartbeats 2000000 in
theorem redo_g1 (who new : Int) (i : Nat) (y : Int) (hM : IsMem base w p c v C L) (hy : C[i]? = some y) (hb : base ≤ w.heap.size) (hL : L.length < 1000000000) (n0 : 0 ≤ new) (n1 : new ≤ 18446744073709551615) :
    Calls Tryz.prog 62 #[pt p, Ev.val ⟨who, 1, i, y, new, true⟩] w (MemPost base w p c v (C.set i new) (L ++ [⟨who, 1, i, y, new, true⟩]) (.returned (.bool true))) := by
  have hi := (List.getElem?_eq_some_iff.1 hy).1
  have HI := Lib.hid hi
  have HM := Lib.hid hM
  have Hy := Lib.hid hy
  have HB : Hid (Below w.heap.size w (w.alloc (.cells #[.int .i64 who, .int .i64 1, .int .i64 i, .int .u64 y, .int .u64 new, .bool true] 72))) := below_new (Below.refl _ _) _
  have HS : Hid (base ≤ (w.alloc (.cells #[.int .i64 who, .int .i64 1, .int .i64 i, .int .u64 y, .int .u64 new, .bool true] 72)).heap.size) := Nat.le_trans hb HB.out.size
  clear hM hy hi hb
  go_enter Tryz.func62, Tryz.ntmps62
  go_wp2_with fail
  refine (has_in base _ p c v C L i (HM.out.later HB.out) HI.out).mono ?_
  rintro r w1 ⟨rfl, rfl⟩
  go_wp2_with fail
  refine (store_in base _ p c v C L who i y new (HM.out.later HB.out) Hy.out HS.out hL n0 n1).mono ?_
  rintro r w2 ⟨rfl, v2, hT⟩
  have hv := (AtV.made w ⟨who, 1, i, y, new, true⟩).keep hT.keep (fun h => Nat.lt_irrefl _ (HM.out.foot _ h).2)
  obtain ⟨e0, e1, e2, e3, e4, e5⟩ := hv
  obtain ⟨b, o, cap, c1, hcap, k0, k1, k2, k3, k4, k5⟩ := hT.mem.last.rest
  have HT := Lib.hid (hT.after HB.out)
  clear hT
  have hw1 : IntKind.i64.wrap ((L.length : Int) + 1 - 1) = (L.length : Int) := by rw [IntWalk.i64_in _ (by omega)]; omega
  have hw0 : IntKind.i64.wrap (L.length : Int) = (L.length : Int) := IntWalk.i64_in _ (by omega)
  have hw2 : (0 : Int) ≤ (L.length : Int) := by omega
  have hw3 : (L.length : Int) < (L.length : Int) + 1 := by omega
  go_wp2_with fail
  refine wp_region_seq ((0, true) :: (1, true) :: (2, true) :: (3, true) :: (4, true) :: (5, true) :: (6, true) :: (7, true) :: (8, true) :: (9, true) :: (10, true) :: (11, true) :: (12, true) :: (13, true) :: (14, true) :: []) (by kernel_rfl) (by kernel_rfl) (by kernel_rfl) (by decide) (fun _ _ _ _ _ h => h) (fun hHeld => ?_)
  repeat (first
    | (refine seq_take (v := ?_) rfl ?_ ?_ ?_; rotate_left 1; rfl; (focus (intro wS hSw; have hk := below_rule hSw; go_simp; first | done | with_reducible rfl)); (try simp only [Act.put, List.setIfInBounds_toArray, List.set_cons_zero, List.set_cons_succ]))
    | (refine seq_skip rfl ?_ ?_; rfl; (try simp only [Act.put, List.setIfInBounds_toArray, List.set_cons_zero, List.set_cons_succ]))
    | (refine seq_run rfl (fun K hK => ?_); go_simp; (try skip); (try go_wp2_with fail); refine hK.out _ _ ?_ ?_; (focus (first | exact below_step hHeld hb' | exact below_new hHeld _ | exact hHeld)); (try clear hb'); clear hHeld hK K; intro hHeld; (try simp only [Act.put, List.setIfInBounds_toArray, List.set_cons_zero, List.set_cons_succ])))
  first | refine seq_done ?_ | skip
  go_wp2
  go_ret
  exact ⟨rfl, v2, HT.out.later hHeld⟩

set_option maxHeartbeats 2000000 in
theorem redo_b1a (who old new : Int) (i : Nat) (y : Int) (hM : IsMem base w p c v C L) (hy : C[i]? = some y) (hb : base ≤ w.heap.size) (hL : L.length < 1000000000) (ok : Bool) (n0 : 0 ≤ new) (n1 : new ≤ 18446744073709551615) (h1 : y ≠ old) :
    Calls Tryz.prog 62 #[pt p, Ev.val ⟨who, 1, i, old, new, ok⟩] w (RedoNo base w p c v C.length L.length) := by
  have hi := (List.getElem?_eq_some_iff.1 hy).1
  have HI := Lib.hid hi
  have HM := Lib.hid hM
  have Hy := Lib.hid hy
  have HB : Hid (Below w.heap.size w (w.alloc (.cells #[.int .i64 who, .int .i64 1, .int .i64 i, .int .u64 old, .int .u64 new, .bool ok] 72))) := below_new (Below.refl _ _) _
  have HS : Hid (base ≤ (w.alloc (.cells #[.int .i64 who, .int .i64 1, .int .i64 i, .int .u64 old, .int .u64 new, .bool ok] 72)).heap.size) := Nat.le_trans hb HB.out.size
  have q1 : (y == old) = false := by simpa using h1
  clear hM hy hi hb
  go_enter Tryz.func62, Tryz.ntmps62
  go_wp2_with fail
  refine (has_in base _ p c v C L i (HM.out.later HB.out) HI.out).mono ?_
  rintro r w1 ⟨rfl, rfl⟩
  go_wp2_with fail
  refine (store_in base _ p c v C L who i y new (HM.out.later HB.out) Hy.out HS.out hL n0 n1).mono ?_
  rintro r w2 ⟨rfl, v2, hT⟩
  have hv := (AtV.made w ⟨who, 1, i, old, new, ok⟩).keep hT.keep (fun h => Nat.lt_irrefl _ (HM.out.foot _ h).2)
  obtain ⟨e0, e1, e2, e3, e4, e5⟩ := hv
  obtain ⟨b, o, cap, c1, hcap, k0, k1, k2, k3, k4, k5⟩ := hT.mem.last.rest
  have HT := Lib.hid (hT.after HB.out)
  clear hT
  have hw1 : IntKind.i64.wrap ((L.length : Int) + 1 - 1) = (L.length : Int) := by rw [IntWalk.i64_in _ (by omega)]; omega
  have hw0 : IntKind.i64.wrap (L.length : Int) = (L.length : Int) := IntWalk.i64_in _ (by omega)
  have hw2 : (0 : Int) ≤ (L.length : Int) := by omega
  have hw3 : (L.length : Int) < (L.length : Int) + 1 := by omega
  go_wp2_with fail
  refine wp_region_seq ((0, true) :: (1, true) :: (2, true) :: (3, true) :: (4, true) :: (5, true) :: (6, true) :: (7, true) :: (8, true) :: (9, true) :: (10, true) :: (11, true) :: (12, true) :: (13, true) :: (14, true) :: []) (by kernel_rfl) (by kernel_rfl) (by kernel_rfl) (by decide) (fun _ _ _ _ _ h => h) (fun hHeld => ?_)
  repeat (first
    | (refine seq_take (v := ?_) rfl ?_ ?_ ?_; rotate_left 1; rfl; (focus (intro wS hSw; have hk := below_rule hSw; go_simp; first | done | with_reducible rfl)); (try simp only [Act.put, List.setIfInBounds_toArray, List.set_cons_zero, List.set_cons_succ]))
    | (refine seq_skip rfl ?_ ?_; rfl; (try simp only [Act.put, List.setIfInBounds_toArray, List.set_cons_zero, List.set_cons_succ]))
    | (refine seq_run rfl (fun K hK => ?_); go_simp; (try skip); (try go_wp2_with fail); refine hK.out _ _ ?_ ?_; (focus (first | exact below_step hHeld hb' | exact below_new hHeld _ | exact hHeld)); (try clear hb'); clear hHeld hK K; intro hHeld; (try simp only [Act.put, List.setIfInBounds_toArray, List.set_cons_zero, List.set_cons_succ])))
  first | refine seq_done ?_ | skip
  go_wp2
  go_ret
  exact ⟨rfl, v2, _, _, HT.out.later hHeld, by simp, by simp⟩

set_option maxHeartbeats 2000000 in
theorem redo_b1b (who new : Int) (i : Nat) (y : Int) (hM : IsMem base w p c v C L) (hy : C[i]? = some y) (hb : base ≤ w.heap.size) (hL : L.length < 1000000000) (n0 : 0 ≤ new) (n1 : new ≤ 18446744073709551615) :
    Calls Tryz.prog 62 #[pt p, Ev.val ⟨who, 1, i, y, new, false⟩] w (RedoNo base w p c v C.length L.length) := by
  have hi := (List.getElem?_eq_some_iff.1 hy).1
  have HI := Lib.hid hi
  have HM := Lib.hid hM
  have Hy := Lib.hid hy
  have HB : Hid (Below w.heap.size w (w.alloc (.cells #[.int .i64 who, .int .i64 1, .int .i64 i, .int .u64 y, .int .u64 new, .bool false] 72))) := below_new (Below.refl _ _) _
  have HS : Hid (base ≤ (w.alloc (.cells #[.int .i64 who, .int .i64 1, .int .i64 i, .int .u64 y, .int .u64 new, .bool false] 72)).heap.size) := Nat.le_trans hb HB.out.size
  clear hM hy hi hb
  go_enter Tryz.func62, Tryz.ntmps62
  go_wp2_with fail
  refine (has_in base _ p c v C L i (HM.out.later HB.out) HI.out).mono ?_
  rintro r w1 ⟨rfl, rfl⟩
  go_wp2_with fail
  refine (store_in base _ p c v C L who i y new (HM.out.later HB.out) Hy.out HS.out hL n0 n1).mono ?_
  rintro r w2 ⟨rfl, v2, hT⟩
  have hv := (AtV.made w ⟨who, 1, i, y, new, false⟩).keep hT.keep (fun h => Nat.lt_irrefl _ (HM.out.foot _ h).2)
  obtain ⟨e0, e1, e2, e3, e4, e5⟩ := hv
  obtain ⟨b, o, cap, c1, hcap, k0, k1, k2, k3, k4, k5⟩ := hT.mem.last.rest
  have HT := Lib.hid (hT.after HB.out)
  clear hT
  have hw1 : IntKind.i64.wrap ((L.length : Int) + 1 - 1) = (L.length : Int) := by rw [IntWalk.i64_in _ (by omega)]; omega
  have hw0 : IntKind.i64.wrap (L.length : Int) = (L.length : Int) := IntWalk.i64_in _ (by omega)
  have hw2 : (0 : Int) ≤ (L.length : Int) := by omega
  have hw3 : (L.length : Int) < (L.length : Int) + 1 := by omega
  go_wp2_with fail
  refine wp_region_seq ((0, true) :: (1, true) :: (2, true) :: (3, true) :: (4, true) :: (5, true) :: (6, true) :: (7, true) :: (8, true) :: (9, true) :: (10, true) :: (11, true) :: (12, true) :: (13, true) :: (14, true) :: []) (by kernel_rfl) (by kernel_rfl) (by kernel_rfl) (by decide) (fun _ _ _ _ _ h => h) (fun hHeld => ?_)
  repeat (first
    | (refine seq_take (v := ?_) rfl ?_ ?_ ?_; rotate_left 1; rfl; (focus (intro wS hSw; have hk := below_rule hSw; go_simp; first | done | with_reducible rfl)); (try simp only [Act.put, List.setIfInBounds_toArray, List.set_cons_zero, List.set_cons_succ]))
    | (refine seq_skip rfl ?_ ?_; rfl; (try simp only [Act.put, List.setIfInBounds_toArray, List.set_cons_zero, List.set_cons_succ]))
    | (refine seq_run rfl (fun K hK => ?_); go_simp; (try skip); (try go_wp2_with fail); refine hK.out _ _ ?_ ?_; (focus (first | exact below_step hHeld hb' | exact below_new hHeld _ | exact hHeld)); (try clear hb'); clear hHeld hK K; intro hHeld; (try simp only [Act.put, List.setIfInBounds_toArray, List.set_cons_zero, List.set_cons_succ])))
  first | refine seq_done ?_ | skip
  go_wp2
  go_ret
  exact ⟨rfl, v2, _, _, HT.out.later hHeld, by simp, by simp⟩

set_option maxHeartbeats 2000000 in
theorem redo_g3 (who new : Int) (i : Nat) (y : Int) (hM : IsMem base w p c v C L) (hy : C[i]? = some y) (hb : base ≤ w.heap.size) (hL : L.length < 1000000000) (n0 : 0 ≤ new) (n1 : new ≤ 18446744073709551615) :
    Calls Tryz.prog 62 #[pt p, Ev.val ⟨who, 3, i, y, new, true⟩] w (MemPost base w p c v (C.set i new) (L ++ [⟨who, 3, i, y, new, true⟩]) (.returned (.bool true))) := by
  have hi := (List.getElem?_eq_some_iff.1 hy).1
  have HI := Lib.hid hi
  have HM := Lib.hid hM
  have Hy := Lib.hid hy
  have HB : Hid (Below w.heap.size w (w.alloc (.cells #[.int .i64 who, .int .i64 3, .int .i64 i, .int .u64 y, .int .u64 new, .bool true] 72))) := below_new (Below.refl _ _) _
  have HS : Hid (base ≤ (w.alloc (.cells #[.int .i64 who, .int .i64 3, .int .i64 i, .int .u64 y, .int .u64 new, .bool true] 72)).heap.size) := Nat.le_trans hb HB.out.size
  have q1 : add64 y (IntKind.u64.wrap (new - y)) = new := add64_diff y new n0 n1
  have Q1 := Lib.hid q1
  clear q1
  clear hM hy hi hb
  go_enter Tryz.func62, Tryz.ntmps62
  go_wp2_with fail
  refine (has_in base _ p c v C L i (HM.out.later HB.out) HI.out).mono ?_
  rintro r w1 ⟨rfl, rfl⟩
  go_wp2_with fail
  refine (add_in base _ p c v C L who i y _ (HM.out.later HB.out) Hy.out HS.out hL).mono ?_
  rintro r w2 ⟨rfl, v2, hT⟩
  rw [Q1.out] at hT
  have hv := (AtV.made w ⟨who, 3, i, y, new, true⟩).keep hT.keep (fun h => Nat.lt_irrefl _ (HM.out.foot _ h).2)
  obtain ⟨e0, e1, e2, e3, e4, e5⟩ := hv
  obtain ⟨b, o, cap, c1, hcap, k0, k1, k2, k3, k4, k5⟩ := hT.mem.last.rest
  have HT := Lib.hid (hT.after HB.out)
  clear hT
  have hw1 : IntKind.i64.wrap ((L.length : Int) + 1 - 1) = (L.length : Int) := by rw [IntWalk.i64_in _ (by omega)]; omega
  have hw0 : IntKind.i64.wrap (L.length : Int) = (L.length : Int) := IntWalk.i64_in _ (by omega)
  have hw2 : (0 : Int) ≤ (L.length : Int) := by omega
  have hw3 : (L.length : Int) < (L.length : Int) + 1 := by omega
  go_wp2_with fail
  refine wp_region_seq ((0, true) :: (1, true) :: (2, true) :: (3, true) :: (4, true) :: (5, true) :: (6, true) :: (7, true) :: (8, true) :: (9, true) :: (10, true) :: (11, true) :: (12, true) :: (13, true) :: (14, true) :: []) (by kernel_rfl) (by kernel_rfl) (by kernel_rfl) (by decide) (fun _ _ _ _ _ h => h) (fun hHeld => ?_)
  repeat (first
    | (refine seq_take (v := ?_) rfl ?_ ?_ ?_; rotate_left 1; rfl; (focus (intro wS hSw; have hk := below_rule hSw; go_simp; first | done | with_reducible rfl)); (try simp only [Act.put, List.setIfInBounds_toArray, List.set_cons_zero, List.set_cons_succ]))
    | (refine seq_skip rfl ?_ ?_; rfl; (try simp only [Act.put, List.setIfInBounds_toArray, List.set_cons_zero, List.set_cons_succ]))
    | (refine seq_run rfl (fun K hK => ?_); go_simp; (try skip); (try go_wp2_with fail); refine hK.out _ _ ?_ ?_; (focus (first | exact below_step hHeld hb' | exact below_new hHeld _ | exact hHeld)); (try clear hb'); clear hHeld hK K; intro hHeld; (try simp only [Act.put, List.setIfInBounds_toArray, List.set_cons_zero, List.set_cons_succ])))
  first | refine seq_done ?_ | skip
  go_wp2
  go_ret
  exact ⟨rfl, v2, HT.out.later hHeld⟩

set_option maxHeartbeats 2000000 in
theorem redo_b3a (who old new : Int) (i : Nat) (y : Int) (hM : IsMem base w p c v C L) (hy : C[i]? = some y) (hb : base ≤ w.heap.size) (hL : L.length < 1000000000) (ok : Bool) (n0 : 0 ≤ new) (n1 : new ≤ 18446744073709551615) (h1 : y ≠ old) :
    Calls Tryz.prog 62 #[pt p, Ev.val ⟨who, 3, i, old, new, ok⟩] w (RedoNo base w p c v C.length L.length) := by
  have hi := (List.getElem?_eq_some_iff.1 hy).1
  have HI := Lib.hid hi
  have HM := Lib.hid hM
  have Hy := Lib.hid hy
  have HB : Hid (Below w.heap.size w (w.alloc (.cells #[.int .i64 who, .int .i64 3, .int .i64 i, .int .u64 old, .int .u64 new, .bool ok] 72))) := below_new (Below.refl _ _) _
  have HS : Hid (base ≤ (w.alloc (.cells #[.int .i64 who, .int .i64 3, .int .i64 i, .int .u64 old, .int .u64 new, .bool ok] 72)).heap.size) := Nat.le_trans hb HB.out.size
  have q1 : (y == old) = false := by simpa using h1
  clear hM hy hi hb
  go_enter Tryz.func62, Tryz.ntmps62
  go_wp2_with fail
  refine (has_in base _ p c v C L i (HM.out.later HB.out) HI.out).mono ?_
  rintro r w1 ⟨rfl, rfl⟩
  go_wp2_with fail
  refine (add_in base _ p c v C L who i y _ (HM.out.later HB.out) Hy.out HS.out hL).mono ?_
  rintro r w2 ⟨rfl, v2, hT⟩
  have hv := (AtV.made w ⟨who, 3, i, old, new, ok⟩).keep hT.keep (fun h => Nat.lt_irrefl _ (HM.out.foot _ h).2)
  obtain ⟨e0, e1, e2, e3, e4, e5⟩ := hv
  obtain ⟨b, o, cap, c1, hcap, k0, k1, k2, k3, k4, k5⟩ := hT.mem.last.rest
  have HT := Lib.hid (hT.after HB.out)
  clear hT
  have hw1 : IntKind.i64.wrap ((L.length : Int) + 1 - 1) = (L.length : Int) := by rw [IntWalk.i64_in _ (by omega)]; omega
  have hw0 : IntKind.i64.wrap (L.length : Int) = (L.length : Int) := IntWalk.i64_in _ (by omega)
  have hw2 : (0 : Int) ≤ (L.length : Int) := by omega
  have hw3 : (L.length : Int) < (L.length : Int) + 1 := by omega
  go_wp2_with fail
  refine wp_region_seq ((0, true) :: (1, true) :: (2, true) :: (3, true) :: (4, true) :: (5, true) :: (6, true) :: (7, true) :: (8, true) :: (9, true) :: (10, true) :: (11, true) :: (12, true) :: (13, true) :: (14, true) :: []) (by kernel_rfl) (by kernel_rfl) (by kernel_rfl) (by decide) (fun _ _ _ _ _ h => h) (fun hHeld => ?_)
  repeat (first
    | (refine seq_take (v := ?_) rfl ?_ ?_ ?_; rotate_left 1; rfl; (focus (intro wS hSw; have hk := below_rule hSw; go_simp; first | done | with_reducible rfl)); (try simp only [Act.put, List.setIfInBounds_toArray, List.set_cons_zero, List.set_cons_succ]))
    | (refine seq_skip rfl ?_ ?_; rfl; (try simp only [Act.put, List.setIfInBounds_toArray, List.set_cons_zero, List.set_cons_succ]))
    | (refine seq_run rfl (fun K hK => ?_); go_simp; (try skip); (try go_wp2_with fail); refine hK.out _ _ ?_ ?_; (focus (first | exact below_step hHeld hb' | exact below_new hHeld _ | exact hHeld)); (try clear hb'); clear hHeld hK K; intro hHeld; (try simp only [Act.put, List.setIfInBounds_toArray, List.set_cons_zero, List.set_cons_succ])))
  first | refine seq_done ?_ | skip
  go_wp2
  go_ret
  exact ⟨rfl, v2, _, _, HT.out.later hHeld, by simp, by simp⟩

set_option maxHeartbeats 2000000 in
theorem redo_b3b (who new : Int) (i : Nat) (y : Int) (hM : IsMem base w p c v C L) (hy : C[i]? = some y) (hb : base ≤ w.heap.size) (hL : L.length < 1000000000) (n0 : 0 ≤ new) (n1 : new ≤ 18446744073709551615) :
    Calls Tryz.prog 62 #[pt p, Ev.val ⟨who, 3, i, y, new, false⟩] w (RedoNo base w p c v C.length L.length) := by
  have hi := (List.getElem?_eq_some_iff.1 hy).1
  have HI := Lib.hid hi
  have HM := Lib.hid hM
  have Hy := Lib.hid hy
  have HB : Hid (Below w.heap.size w (w.alloc (.cells #[.int .i64 who, .int .i64 3, .int .i64 i, .int .u64 y, .int .u64 new, .bool false] 72))) := below_new (Below.refl _ _) _
  have HS : Hid (base ≤ (w.alloc (.cells #[.int .i64 who, .int .i64 3, .int .i64 i, .int .u64 y, .int .u64 new, .bool false] 72)).heap.size) := Nat.le_trans hb HB.out.size
  have q1 : add64 y (IntKind.u64.wrap (new - y)) = new := add64_diff y new n0 n1
  have Q1 := Lib.hid q1
  clear q1
  clear hM hy hi hb
  go_enter Tryz.func62, Tryz.ntmps62
  go_wp2_with fail
  refine (has_in base _ p c v C L i (HM.out.later HB.out) HI.out).mono ?_
  rintro r w1 ⟨rfl, rfl⟩
  go_wp2_with fail
  refine (add_in base _ p c v C L who i y _ (HM.out.later HB.out) Hy.out HS.out hL).mono ?_
  rintro r w2 ⟨rfl, v2, hT⟩
  rw [Q1.out] at hT
  have hv := (AtV.made w ⟨who, 3, i, y, new, false⟩).keep hT.keep (fun h => Nat.lt_irrefl _ (HM.out.foot _ h).2)
  obtain ⟨e0, e1, e2, e3, e4, e5⟩ := hv
  obtain ⟨b, o, cap, c1, hcap, k0, k1, k2, k3, k4, k5⟩ := hT.mem.last.rest
  have HT := Lib.hid (hT.after HB.out)
  clear hT
  have hw1 : IntKind.i64.wrap ((L.length : Int) + 1 - 1) = (L.length : Int) := by rw [IntWalk.i64_in _ (by omega)]; omega
  have hw0 : IntKind.i64.wrap (L.length : Int) = (L.length : Int) := IntWalk.i64_in _ (by omega)
  have hw2 : (0 : Int) ≤ (L.length : Int) := by omega
  have hw3 : (L.length : Int) < (L.length : Int) + 1 := by omega
  go_wp2_with fail
  refine wp_region_seq ((0, true) :: (1, true) :: (2, true) :: (3, true) :: (4, true) :: (5, true) :: (6, true) :: (7, true) :: (8, true) :: (9, true) :: (10, true) :: (11, true) :: (12, true) :: (13, true) :: (14, true) :: []) (by kernel_rfl) (by kernel_rfl) (by kernel_rfl) (by decide) (fun _ _ _ _ _ h => h) (fun hHeld => ?_)
  repeat (first
    | (refine seq_take (v := ?_) rfl ?_ ?_ ?_; rotate_left 1; rfl; (focus (intro wS hSw; have hk := below_rule hSw; go_simp; first | done | with_reducible rfl)); (try simp only [Act.put, List.setIfInBounds_toArray, List.set_cons_zero, List.set_cons_succ]))
    | (refine seq_skip rfl ?_ ?_; rfl; (try simp only [Act.put, List.setIfInBounds_toArray, List.set_cons_zero, List.set_cons_succ]))
    | (refine seq_run rfl (fun K hK => ?_); go_simp; (try skip); (try go_wp2_with fail); refine hK.out _ _ ?_ ?_; (focus (first | exact below_step hHeld hb' | exact below_new hHeld _ | exact hHeld)); (try clear hb'); clear hHeld hK K; intro hHeld; (try simp only [Act.put, List.setIfInBounds_toArray, List.set_cons_zero, List.set_cons_succ])))
  first | refine seq_done ?_ | skip
  go_wp2
  go_ret
  exact ⟨rfl, v2, _, _, HT.out.later hHeld, by simp, by simp⟩

end
end Go.Proofs.YthlmekkijknooaaGreat
