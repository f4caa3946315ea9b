/-
  Contracts of redo of package mem: what an event tells, done again. No condition but that numbers fit their kinds.
-/
import Derived.Test.YthlmekkijknooaaGreatMemRedo
namespace Go.Proofs.YthlmekkijknooaaGreat
open Go.RowKit
set_option linter.unusedVariables false

theorem AtV.drew {w : World} {b : Nat} {e : Ev} (h : AtV w b e) : AtV w.drew b e := ⟨h.c0, h.c1, h.c2, h.c3, h.c4, h.c5⟩

section
variable (base : Nat) (w : World) (p c : Nat) (v : Value) (C : List Int) (L : List Ev)

set_option maxHeartbeats 2000000 in
theorem redo_g2t (who new : Int) (i : Nat) (y : Int) (hM : IsMem base w p c v C L) (hy : C[i]? = some y) (hb : base ≤ w.heap.size) (hL : L.length < 1000000000) (n0 : 0 ≤ new) (n1 : new ≤ 18446744073709551615) :
    Calls Tryz.prog 62 #[pt p, Ev.val ⟨who, 2, i, y, new, true⟩] w (MemPost base w p c v (C.set i new) (L ++ [⟨who, 2, i, y, new, true⟩]) (.returned (.bool true))) := by
  have hi := (List.getElem?_eq_some_iff.1 hy).1
  have HI := Lib.hid hi
  have HM := Lib.hid hM
  have Hy := Lib.hid hy
  have HB : Hid (Below w.heap.size w (w.alloc (.cells #[.int .i64 who, .int .i64 2, .int .i64 i, .int .u64 y, .int .u64 new, .bool true] 72))) := below_new (Below.refl _ _) _
  have HBd : Hid (Below w.heap.size w (w.alloc (.cells #[.int .i64 who, .int .i64 2, .int .i64 i, .int .u64 y, .int .u64 new, .bool true] 72)).drew) := HB.out.drew
  clear hM hy hi
  go_enter Tryz.func62, Tryz.ntmps62
  go_wp2_with fail
  refine (has_in base _ p c v C L i (HM.out.later HB.out) HI.out).mono ?_
  rintro r w1 ⟨rfl, rfl⟩
  go_wp2_with fail
  refine wp_region_seqS (fun w' => AtV w' w.heap.size ⟨who, 2, i, y, new, true⟩) ((0, true) :: (1, true) :: (2, true) :: (3, true) :: (4, true) :: (5, true) :: (6, true) :: (8, true) :: (9, true) :: (7, false) :: (10, false) :: []) (by kernel_rfl) (by kernel_rfl) (by kernel_rfl) (by decide) (fun _ _ _ _ _ h => h) (AtV.made w ⟨who, 2, i, y, new, true⟩).drew ?_
  repeat (refine seq_take (v := ?_) rfl ?_ ?_ ?_; rotate_left 1; rfl; (focus (intro wS hSw; obtain ⟨s0, s1, s2, s3, s4, s5⟩ := hSw; go_simp; first | done | with_reducible rfl)); (try simp only [Act.put, List.setIfInBounds_toArray, List.set_cons_zero, List.set_cons_succ]))
  refine seq_run rfl (fun K hK => ?_)
  go_simp
  go_at_call 80
  refine (asked_yes _ p who 2 i y new).mono ?_
  rintro r w3 ⟨rfl, hb3⟩
  have hS3 : AtV w3 w.heap.size ⟨who, 2, i, y, new, true⟩ := (AtV.made w ⟨who, 2, i, y, new, true⟩).drew.keep (Keep.of_below (T := fun _ => False) hb3) (fun h => h)
  have HB3 : Hid (Below w.heap.size w w3) := below_step HBd.out hb3
  clear hb3
  (try go_wp2_with fail)
  refine hK.out _ _ hS3 (fun _ => ?_)
  (try simp only [Act.put, List.setIfInBounds_toArray, List.set_cons_zero, List.set_cons_succ])
  clear hK K
  refine seq_run rfl (fun K hK => ?_)
  go_simp
  go_at_call 79
  refine (swap_yes base _ p c v C L who i y new (HM.out.later HB3.out) Hy.out (Nat.le_trans hb HB3.out.size) hL n0 n1).mono ?_
  rintro r w2 ⟨rfl, v2, hT⟩
  have hv := hS3.keep hT.keep (fun h => Nat.lt_irrefl _ (HM.out.foot _ h).2)
  have Hv := Lib.hid hv
  clear hv hS3
  (try go_wp2_with fail)
  refine hK.out _ _ Hv.out (fun _ => ?_)
  (try simp only [Act.put, List.setIfInBounds_toArray, List.set_cons_zero, List.set_cons_succ])
  clear hK K
  refine seq_done ?_
  obtain ⟨e0, e1, e2, e3, e4, e5⟩ := Hv.out
  obtain ⟨b, o, cap, c1, hcap, k0, k1, k2, k3, k4, k5⟩ := hT.mem.last.rest
  have HT := Lib.hid (hT.after HB3.out)
  clear hT
  have hw1 : IntKind.i64.wrap ((L.length : Int) + 1 - 1) = (L.length : Int) := by rw [IntWalk.i64_in _ (by omega)]; omega
  have hw0 : IntKind.i64.wrap (L.length : Int) = (L.length : Int) := IntWalk.i64_in _ (by omega)
  have hw2 : (0 : Int) ≤ (L.length : Int) := by omega
  have hw3 : (L.length : Int) < (L.length : Int) + 1 := by omega
  go_wp2_with fail
  refine wp_region_seq ((0, true) :: (1, true) :: (2, true) :: (3, true) :: (4, true) :: (5, true) :: (6, true) :: (7, true) :: (8, true) :: (9, true) :: (10, true) :: (11, true) :: (12, true) :: (13, true) :: (14, true) :: []) (by kernel_rfl) (by kernel_rfl) (by kernel_rfl) (by decide) (fun _ _ _ _ _ h => h) (fun hHeld => ?_)
  repeat (first
    | (refine seq_take (v := ?_) rfl ?_ ?_ ?_; rotate_left 1; rfl; (focus (intro wS hSw; have hk := below_rule hSw; go_simp; first | done | with_reducible rfl)); (try simp only [Act.put, List.setIfInBounds_toArray, List.set_cons_zero, List.set_cons_succ]))
    | (refine seq_skip rfl ?_ ?_; rfl; (try simp only [Act.put, List.setIfInBounds_toArray, List.set_cons_zero, List.set_cons_succ]))
    | (refine seq_run rfl (fun K hK => ?_); go_simp; (try skip); (try go_wp2_with fail); refine hK.out _ _ ?_ ?_; (focus (first | exact below_step hHeld hb' | exact below_new hHeld _ | exact hHeld)); (try clear hb'); clear hHeld hK K; intro hHeld; (try simp only [Act.put, List.setIfInBounds_toArray, List.set_cons_zero, List.set_cons_succ])))
  first | refine seq_done ?_ | skip
  go_wp2
  go_ret
  exact ⟨rfl, v2, HT.out.later hHeld⟩

set_option maxHeartbeats 2000000 in
theorem redo_b2t (who old new : Int) (i : Nat) (y : Int) (hM : IsMem base w p c v C L) (hy : C[i]? = some y) (hb : base ≤ w.heap.size) (hL : L.length < 1000000000) (h1 : y ≠ old) :
    Calls Tryz.prog 62 #[pt p, Ev.val ⟨who, 2, i, old, new, true⟩] w (RedoNo base w p c v C.length L.length) := by
  have hi := (List.getElem?_eq_some_iff.1 hy).1
  have HI := Lib.hid hi
  have HM := Lib.hid hM
  have Hy := Lib.hid hy
  have HB : Hid (Below w.heap.size w (w.alloc (.cells #[.int .i64 who, .int .i64 2, .int .i64 i, .int .u64 old, .int .u64 new, .bool true] 72))) := below_new (Below.refl _ _) _
  have HBd : Hid (Below w.heap.size w (w.alloc (.cells #[.int .i64 who, .int .i64 2, .int .i64 i, .int .u64 old, .int .u64 new, .bool true] 72)).drew) := HB.out.drew
  have q1 : (y == old) = false := by simpa using h1
  have H1 := Lib.hid h1
  clear h1
  clear hM hy hi
  go_enter Tryz.func62, Tryz.ntmps62
  go_wp2_with fail
  refine (has_in base _ p c v C L i (HM.out.later HB.out) HI.out).mono ?_
  rintro r w1 ⟨rfl, rfl⟩
  go_wp2_with fail
  refine wp_region_seqS (fun w' => AtV w' w.heap.size ⟨who, 2, i, old, new, true⟩) ((0, true) :: (1, true) :: (2, true) :: (3, true) :: (4, true) :: (5, true) :: (6, true) :: (8, true) :: (9, true) :: (7, false) :: (10, false) :: []) (by kernel_rfl) (by kernel_rfl) (by kernel_rfl) (by decide) (fun _ _ _ _ _ h => h) (AtV.made w ⟨who, 2, i, old, new, true⟩).drew ?_
  repeat (refine seq_take (v := ?_) rfl ?_ ?_ ?_; rotate_left 1; rfl; (focus (intro wS hSw; obtain ⟨s0, s1, s2, s3, s4, s5⟩ := hSw; go_simp; first | done | with_reducible rfl)); (try simp only [Act.put, List.setIfInBounds_toArray, List.set_cons_zero, List.set_cons_succ]))
  refine seq_run rfl (fun K hK => ?_)
  go_simp
  go_at_call 80
  refine (asked_yes _ p who 2 i old new).mono ?_
  rintro r w3 ⟨rfl, hb3⟩
  have hS3 : AtV w3 w.heap.size ⟨who, 2, i, old, new, true⟩ := (AtV.made w ⟨who, 2, i, old, new, true⟩).drew.keep (Keep.of_below (T := fun _ => False) hb3) (fun h => h)
  have HB3 : Hid (Below w.heap.size w w3) := below_step HBd.out hb3
  clear hb3
  (try go_wp2_with fail)
  refine hK.out _ _ hS3 (fun _ => ?_)
  (try simp only [Act.put, List.setIfInBounds_toArray, List.set_cons_zero, List.set_cons_succ])
  clear hK K
  refine seq_run rfl (fun K hK => ?_)
  go_simp
  go_at_call 79
  refine (swap_no base _ p c v C L who i y old new (HM.out.later HB3.out) Hy.out (Nat.le_trans hb HB3.out.size) hL H1.out).mono ?_
  rintro r w2 ⟨rfl, v2, hT⟩
  have hv := hS3.keep hT.keep (fun h => Nat.lt_irrefl _ (HM.out.foot _ h).2)
  have Hv := Lib.hid hv
  clear hv hS3
  (try go_wp2_with fail)
  refine hK.out _ _ Hv.out (fun _ => ?_)
  (try simp only [Act.put, List.setIfInBounds_toArray, List.set_cons_zero, List.set_cons_succ])
  clear hK K
  refine seq_done ?_
  obtain ⟨e0, e1, e2, e3, e4, e5⟩ := Hv.out
  obtain ⟨b, o, cap, c1, hcap, k0, k1, k2, k3, k4, k5⟩ := hT.mem.last.rest
  have HT := Lib.hid (hT.after HB3.out)
  clear hT
  have hw1 : IntKind.i64.wrap ((L.length : Int) + 1 - 1) = (L.length : Int) := by rw [IntWalk.i64_in _ (by omega)]; omega
  have hw0 : IntKind.i64.wrap (L.length : Int) = (L.length : Int) := IntWalk.i64_in _ (by omega)
  have hw2 : (0 : Int) ≤ (L.length : Int) := by omega
  have hw3 : (L.length : Int) < (L.length : Int) + 1 := by omega
  go_wp2_with fail
  refine wp_region_seq ((0, true) :: (1, true) :: (2, true) :: (3, true) :: (4, true) :: (5, true) :: (6, true) :: (7, true) :: (8, true) :: (9, true) :: (10, true) :: (11, true) :: (12, true) :: (13, true) :: (14, true) :: []) (by kernel_rfl) (by kernel_rfl) (by kernel_rfl) (by decide) (fun _ _ _ _ _ h => h) (fun hHeld => ?_)
  repeat (first
    | (refine seq_take (v := ?_) rfl ?_ ?_ ?_; rotate_left 1; rfl; (focus (intro wS hSw; have hk := below_rule hSw; go_simp; first | done | with_reducible rfl)); (try simp only [Act.put, List.setIfInBounds_toArray, List.set_cons_zero, List.set_cons_succ]))
    | (refine seq_skip rfl ?_ ?_; rfl; (try simp only [Act.put, List.setIfInBounds_toArray, List.set_cons_zero, List.set_cons_succ]))
    | (refine seq_run rfl (fun K hK => ?_); go_simp; (try skip); (try go_wp2_with fail); refine hK.out _ _ ?_ ?_; (focus (first | exact below_step hHeld hb' | exact below_new hHeld _ | exact hHeld)); (try clear hb'); clear hHeld hK K; intro hHeld; (try simp only [Act.put, List.setIfInBounds_toArray, List.set_cons_zero, List.set_cons_succ])))
  first | refine seq_done ?_ | skip
  go_wp2
  go_ret
  exact ⟨rfl, v2, _, _, HT.out.later hHeld, by simp, by simp⟩

set_option maxHeartbeats 2000000 in
theorem redo_g2f (who : Int) (i : Nat) (y : Int) (hM : IsMem base w p c v C L) (hy : C[i]? = some y) (hb : base ≤ w.heap.size) (hL : L.length < 1000000000)  :
    Calls Tryz.prog 62 #[pt p, Ev.val ⟨who, 2, i, y, y, false⟩] w (MemPost base w p c v (C.set i y) (L ++ [⟨who, 2, i, y, y, false⟩]) (.returned (.bool true))) := by
  have hi := (List.getElem?_eq_some_iff.1 hy).1
  have HI := Lib.hid hi
  have HM := Lib.hid hM
  have Hy := Lib.hid hy
  have HB : Hid (Below w.heap.size w (w.alloc (.cells #[.int .i64 who, .int .i64 2, .int .i64 i, .int .u64 y, .int .u64 y, .bool false] 72))) := below_new (Below.refl _ _) _
  have HBd : Hid (Below w.heap.size w (w.alloc (.cells #[.int .i64 who, .int .i64 2, .int .i64 i, .int .u64 y, .int .u64 y, .bool false] 72)).drew) := HB.out.drew
  clear hM hy hi
  go_enter Tryz.func62, Tryz.ntmps62
  go_wp2_with fail
  refine (has_in base _ p c v C L i (HM.out.later HB.out) HI.out).mono ?_
  rintro r w1 ⟨rfl, rfl⟩
  go_wp2_with fail
  refine wp_region_seqS (fun w' => AtV w' w.heap.size ⟨who, 2, i, y, y, false⟩) ((0, true) :: (1, true) :: (2, true) :: (3, true) :: (4, true) :: (5, true) :: (6, true) :: (8, true) :: (9, true) :: (7, false) :: (10, false) :: []) (by kernel_rfl) (by kernel_rfl) (by kernel_rfl) (by decide) (fun _ _ _ _ _ h => h) (AtV.made w ⟨who, 2, i, y, y, false⟩).drew ?_
  repeat (refine seq_take (v := ?_) rfl ?_ ?_ ?_; rotate_left 1; rfl; (focus (intro wS hSw; obtain ⟨s0, s1, s2, s3, s4, s5⟩ := hSw; go_simp; first | done | with_reducible rfl)); (try simp only [Act.put, List.setIfInBounds_toArray, List.set_cons_zero, List.set_cons_succ]))
  refine seq_run rfl (fun K hK => ?_)
  go_simp
  go_at_call 80
  refine (asked_no base _ p c v C L who 2 y y i y (HM.out.later HBd.out) Hy.out).mono ?_
  rintro r w3 ⟨⟨z, rfl, hz⟩, hb3⟩
  have hS3 : AtV w3 w.heap.size ⟨who, 2, i, y, y, false⟩ := (AtV.made w ⟨who, 2, i, y, y, false⟩).drew.keep (Keep.of_below (T := fun _ => False) hb3) (fun h => h)
  have HB3 : Hid (Below w.heap.size w w3) := below_step HBd.out hb3
  clear hb3
  (try go_wp2_with fail)
  refine hK.out _ _ hS3 (fun _ => ?_)
  (try simp only [Act.put, List.setIfInBounds_toArray, List.set_cons_zero, List.set_cons_succ])
  clear hK K
  refine seq_run rfl (fun K hK => ?_)
  go_simp
  go_at_call 79
  refine (swap_no base _ p c v C L who i y z y (HM.out.later HB3.out) Hy.out (Nat.le_trans hb HB3.out.size) hL (Ne.symm hz)).mono ?_
  rintro r w2 ⟨rfl, v2, hT⟩
  have hv := hS3.keep hT.keep (fun h => Nat.lt_irrefl _ (HM.out.foot _ h).2)
  have Hv := Lib.hid hv
  clear hv hS3
  (try go_wp2_with fail)
  refine hK.out _ _ Hv.out (fun _ => ?_)
  (try simp only [Act.put, List.setIfInBounds_toArray, List.set_cons_zero, List.set_cons_succ])
  clear hK K
  refine seq_done ?_
  obtain ⟨e0, e1, e2, e3, e4, e5⟩ := Hv.out
  obtain ⟨b, o, cap, c1, hcap, k0, k1, k2, k3, k4, k5⟩ := hT.mem.last.rest
  have HT := Lib.hid (hT.after HB3.out)
  clear hT
  have hw1 : IntKind.i64.wrap ((L.length : Int) + 1 - 1) = (L.length : Int) := by rw [IntWalk.i64_in _ (by omega)]; omega
  have hw0 : IntKind.i64.wrap (L.length : Int) = (L.length : Int) := IntWalk.i64_in _ (by omega)
  have hw2 : (0 : Int) ≤ (L.length : Int) := by omega
  have hw3 : (L.length : Int) < (L.length : Int) + 1 := by omega
  go_wp2_with fail
  refine wp_region_seq ((0, true) :: (1, true) :: (2, true) :: (3, true) :: (4, true) :: (5, true) :: (6, true) :: (7, true) :: (8, true) :: (9, true) :: (10, true) :: (11, true) :: (12, true) :: (13, true) :: (14, true) :: []) (by kernel_rfl) (by kernel_rfl) (by kernel_rfl) (by decide) (fun _ _ _ _ _ h => h) (fun hHeld => ?_)
  repeat (first
    | (refine seq_take (v := ?_) rfl ?_ ?_ ?_; rotate_left 1; rfl; (focus (intro wS hSw; have hk := below_rule hSw; go_simp; first | done | with_reducible rfl)); (try simp only [Act.put, List.setIfInBounds_toArray, List.set_cons_zero, List.set_cons_succ]))
    | (refine seq_skip rfl ?_ ?_; rfl; (try simp only [Act.put, List.setIfInBounds_toArray, List.set_cons_zero, List.set_cons_succ]))
    | (refine seq_run rfl (fun K hK => ?_); go_simp; (try skip); (try go_wp2_with fail); refine hK.out _ _ ?_ ?_; (focus (first | exact below_step hHeld hb' | exact below_new hHeld _ | exact hHeld)); (try clear hb'); clear hHeld hK K; intro hHeld; (try simp only [Act.put, List.setIfInBounds_toArray, List.set_cons_zero, List.set_cons_succ])))
  first | refine seq_done ?_ | skip
  go_wp2
  go_ret
  exact ⟨rfl, v2, by rw [set_same Hy.out]; exact HT.out.later hHeld⟩

set_option maxHeartbeats 2000000 in
theorem redo_b2fa (who old new : Int) (i : Nat) (y : Int) (hM : IsMem base w p c v C L) (hy : C[i]? = some y) (hb : base ≤ w.heap.size) (hL : L.length < 1000000000) (h1 : y ≠ old) :
    Calls Tryz.prog 62 #[pt p, Ev.val ⟨who, 2, i, old, new, false⟩] w (RedoNo base w p c v C.length L.length) := by
  have hi := (List.getElem?_eq_some_iff.1 hy).1
  have HI := Lib.hid hi
  have HM := Lib.hid hM
  have Hy := Lib.hid hy
  have HB : Hid (Below w.heap.size w (w.alloc (.cells #[.int .i64 who, .int .i64 2, .int .i64 i, .int .u64 old, .int .u64 new, .bool false] 72))) := below_new (Below.refl _ _) _
  have HBd : Hid (Below w.heap.size w (w.alloc (.cells #[.int .i64 who, .int .i64 2, .int .i64 i, .int .u64 old, .int .u64 new, .bool false] 72)).drew) := HB.out.drew
  have q1 : (y == old) = false := by simpa using h1
  clear h1
  clear hM hy hi
  go_enter Tryz.func62, Tryz.ntmps62
  go_wp2_with fail
  refine (has_in base _ p c v C L i (HM.out.later HB.out) HI.out).mono ?_
  rintro r w1 ⟨rfl, rfl⟩
  go_wp2_with fail
  refine wp_region_seqS (fun w' => AtV w' w.heap.size ⟨who, 2, i, old, new, false⟩) ((0, true) :: (1, true) :: (2, true) :: (3, true) :: (4, true) :: (5, true) :: (6, true) :: (8, true) :: (9, true) :: (7, false) :: (10, false) :: []) (by kernel_rfl) (by kernel_rfl) (by kernel_rfl) (by decide) (fun _ _ _ _ _ h => h) (AtV.made w ⟨who, 2, i, old, new, false⟩).drew ?_
  repeat (refine seq_take (v := ?_) rfl ?_ ?_ ?_; rotate_left 1; rfl; (focus (intro wS hSw; obtain ⟨s0, s1, s2, s3, s4, s5⟩ := hSw; go_simp; first | done | with_reducible rfl)); (try simp only [Act.put, List.setIfInBounds_toArray, List.set_cons_zero, List.set_cons_succ]))
  refine seq_run rfl (fun K hK => ?_)
  go_simp
  go_at_call 80
  refine (asked_no base _ p c v C L who 2 old new i y (HM.out.later HBd.out) Hy.out).mono ?_
  rintro r w3 ⟨⟨z, rfl, hz⟩, hb3⟩
  have hS3 : AtV w3 w.heap.size ⟨who, 2, i, old, new, false⟩ := (AtV.made w ⟨who, 2, i, old, new, false⟩).drew.keep (Keep.of_below (T := fun _ => False) hb3) (fun h => h)
  have HB3 : Hid (Below w.heap.size w w3) := below_step HBd.out hb3
  clear hb3
  (try go_wp2_with fail)
  refine hK.out _ _ hS3 (fun _ => ?_)
  (try simp only [Act.put, List.setIfInBounds_toArray, List.set_cons_zero, List.set_cons_succ])
  clear hK K
  refine seq_run rfl (fun K hK => ?_)
  go_simp
  go_at_call 79
  refine (swap_no base _ p c v C L who i y z new (HM.out.later HB3.out) Hy.out (Nat.le_trans hb HB3.out.size) hL (Ne.symm hz)).mono ?_
  rintro r w2 ⟨rfl, v2, hT⟩
  have hv := hS3.keep hT.keep (fun h => Nat.lt_irrefl _ (HM.out.foot _ h).2)
  have Hv := Lib.hid hv
  clear hv hS3
  (try go_wp2_with fail)
  refine hK.out _ _ Hv.out (fun _ => ?_)
  (try simp only [Act.put, List.setIfInBounds_toArray, List.set_cons_zero, List.set_cons_succ])
  clear hK K
  refine seq_done ?_
  obtain ⟨e0, e1, e2, e3, e4, e5⟩ := Hv.out
  obtain ⟨b, o, cap, c1, hcap, k0, k1, k2, k3, k4, k5⟩ := hT.mem.last.rest
  have HT := Lib.hid (hT.after HB3.out)
  clear hT
  have hw1 : IntKind.i64.wrap ((L.length : Int) + 1 - 1) = (L.length : Int) := by rw [IntWalk.i64_in _ (by omega)]; omega
  have hw0 : IntKind.i64.wrap (L.length : Int) = (L.length : Int) := IntWalk.i64_in _ (by omega)
  have hw2 : (0 : Int) ≤ (L.length : Int) := by omega
  have hw3 : (L.length : Int) < (L.length : Int) + 1 := by omega
  go_wp2_with fail
  refine wp_region_seq ((0, true) :: (1, true) :: (2, true) :: (3, true) :: (4, true) :: (5, true) :: (6, true) :: (7, true) :: (8, true) :: (9, true) :: (10, true) :: (11, true) :: (12, true) :: (13, true) :: (14, true) :: []) (by kernel_rfl) (by kernel_rfl) (by kernel_rfl) (by decide) (fun _ _ _ _ _ h => h) (fun hHeld => ?_)
  repeat (first
    | (refine seq_take (v := ?_) rfl ?_ ?_ ?_; rotate_left 1; rfl; (focus (intro wS hSw; have hk := below_rule hSw; go_simp; first | done | with_reducible rfl)); (try simp only [Act.put, List.setIfInBounds_toArray, List.set_cons_zero, List.set_cons_succ]))
    | (refine seq_skip rfl ?_ ?_; rfl; (try simp only [Act.put, List.setIfInBounds_toArray, List.set_cons_zero, List.set_cons_succ]))
    | (refine seq_run rfl (fun K hK => ?_); go_simp; (try skip); (try go_wp2_with fail); refine hK.out _ _ ?_ ?_; (focus (first | exact below_step hHeld hb' | exact below_new hHeld _ | exact hHeld)); (try clear hb'); clear hHeld hK K; intro hHeld; (try simp only [Act.put, List.setIfInBounds_toArray, List.set_cons_zero, List.set_cons_succ])))
  first | refine seq_done ?_ | skip
  go_wp2
  go_ret
  exact ⟨rfl, v2, _, _, HT.out.later hHeld, by simp, by simp⟩

set_option maxHeartbeats 2000000 in
theorem redo_b2fb (who new : Int) (i : Nat) (y : Int) (hM : IsMem base w p c v C L) (hy : C[i]? = some y) (hb : base ≤ w.heap.size) (hL : L.length < 1000000000) (h1 : y ≠ new) :
    Calls Tryz.prog 62 #[pt p, Ev.val ⟨who, 2, i, y, new, false⟩] w (RedoNo base w p c v C.length L.length) := by
  have hi := (List.getElem?_eq_some_iff.1 hy).1
  have HI := Lib.hid hi
  have HM := Lib.hid hM
  have Hy := Lib.hid hy
  have HB : Hid (Below w.heap.size w (w.alloc (.cells #[.int .i64 who, .int .i64 2, .int .i64 i, .int .u64 y, .int .u64 new, .bool false] 72))) := below_new (Below.refl _ _) _
  have HBd : Hid (Below w.heap.size w (w.alloc (.cells #[.int .i64 who, .int .i64 2, .int .i64 i, .int .u64 y, .int .u64 new, .bool false] 72)).drew) := HB.out.drew
  have q1 : (y == new) = false := by simpa using h1
  clear h1
  clear hM hy hi
  go_enter Tryz.func62, Tryz.ntmps62
  go_wp2_with fail
  refine (has_in base _ p c v C L i (HM.out.later HB.out) HI.out).mono ?_
  rintro r w1 ⟨rfl, rfl⟩
  go_wp2_with fail
  refine wp_region_seqS (fun w' => AtV w' w.heap.size ⟨who, 2, i, y, new, false⟩) ((0, true) :: (1, true) :: (2, true) :: (3, true) :: (4, true) :: (5, true) :: (6, true) :: (8, true) :: (9, true) :: (7, false) :: (10, false) :: []) (by kernel_rfl) (by kernel_rfl) (by kernel_rfl) (by decide) (fun _ _ _ _ _ h => h) (AtV.made w ⟨who, 2, i, y, new, false⟩).drew ?_
  repeat (refine seq_take (v := ?_) rfl ?_ ?_ ?_; rotate_left 1; rfl; (focus (intro wS hSw; obtain ⟨s0, s1, s2, s3, s4, s5⟩ := hSw; go_simp; first | done | with_reducible rfl)); (try simp only [Act.put, List.setIfInBounds_toArray, List.set_cons_zero, List.set_cons_succ]))
  refine seq_run rfl (fun K hK => ?_)
  go_simp
  go_at_call 80
  refine (asked_no base _ p c v C L who 2 y new i y (HM.out.later HBd.out) Hy.out).mono ?_
  rintro r w3 ⟨⟨z, rfl, hz⟩, hb3⟩
  have hS3 : AtV w3 w.heap.size ⟨who, 2, i, y, new, false⟩ := (AtV.made w ⟨who, 2, i, y, new, false⟩).drew.keep (Keep.of_below (T := fun _ => False) hb3) (fun h => h)
  have HB3 : Hid (Below w.heap.size w w3) := below_step HBd.out hb3
  clear hb3
  (try go_wp2_with fail)
  refine hK.out _ _ hS3 (fun _ => ?_)
  (try simp only [Act.put, List.setIfInBounds_toArray, List.set_cons_zero, List.set_cons_succ])
  clear hK K
  refine seq_run rfl (fun K hK => ?_)
  go_simp
  go_at_call 79
  refine (swap_no base _ p c v C L who i y z new (HM.out.later HB3.out) Hy.out (Nat.le_trans hb HB3.out.size) hL (Ne.symm hz)).mono ?_
  rintro r w2 ⟨rfl, v2, hT⟩
  have hv := hS3.keep hT.keep (fun h => Nat.lt_irrefl _ (HM.out.foot _ h).2)
  have Hv := Lib.hid hv
  clear hv hS3
  (try go_wp2_with fail)
  refine hK.out _ _ Hv.out (fun _ => ?_)
  (try simp only [Act.put, List.setIfInBounds_toArray, List.set_cons_zero, List.set_cons_succ])
  clear hK K
  refine seq_done ?_
  obtain ⟨e0, e1, e2, e3, e4, e5⟩ := Hv.out
  obtain ⟨b, o, cap, c1, hcap, k0, k1, k2, k3, k4, k5⟩ := hT.mem.last.rest
  have HT := Lib.hid (hT.after HB3.out)
  clear hT
  have hw1 : IntKind.i64.wrap ((L.length : Int) + 1 - 1) = (L.length : Int) := by rw [IntWalk.i64_in _ (by omega)]; omega
  have hw0 : IntKind.i64.wrap (L.length : Int) = (L.length : Int) := IntWalk.i64_in _ (by omega)
  have hw2 : (0 : Int) ≤ (L.length : Int) := by omega
  have hw3 : (L.length : Int) < (L.length : Int) + 1 := by omega
  go_wp2_with fail
  refine wp_region_seq ((0, true) :: (1, true) :: (2, true) :: (3, true) :: (4, true) :: (5, true) :: (6, true) :: (7, true) :: (8, true) :: (9, true) :: (10, true) :: (11, true) :: (12, true) :: (13, true) :: (14, true) :: []) (by kernel_rfl) (by kernel_rfl) (by kernel_rfl) (by decide) (fun _ _ _ _ _ h => h) (fun hHeld => ?_)
  repeat (first
    | (refine seq_take (v := ?_) rfl ?_ ?_ ?_; rotate_left 1; rfl; (focus (intro wS hSw; have hk := below_rule hSw; go_simp; first | done | with_reducible rfl)); (try simp only [Act.put, List.setIfInBounds_toArray, List.set_cons_zero, List.set_cons_succ]))
    | (refine seq_skip rfl ?_ ?_; rfl; (try simp only [Act.put, List.setIfInBounds_toArray, List.set_cons_zero, List.set_cons_succ]))
    | (refine seq_run rfl (fun K hK => ?_); go_simp; (try skip); (try go_wp2_with fail); refine hK.out _ _ ?_ ?_; (focus (first | exact below_step hHeld hb' | exact below_new hHeld _ | exact hHeld)); (try clear hb'); clear hHeld hK K; intro hHeld; (try simp only [Act.put, List.setIfInBounds_toArray, List.set_cons_zero, List.set_cons_succ])))
  first | refine seq_done ?_ | skip
  go_wp2
  go_ret
  exact ⟨rfl, v2, _, _, HT.out.later hHeld, by simp, by simp⟩

set_option maxHeartbeats 1000000 in
theorem redo_out (who op cell old new : Int) (ok : Bool) (hM : IsMem base w p c v C L) (ho : cell < 0 ∨ (C.length : Int) ≤ cell) :
    Calls Tryz.prog 62 #[pt p, Ev.val ⟨who, op, cell, old, new, ok⟩] w (RedoNo base w p c v C.length L.length) := by
  have HM := Lib.hid hM
  have HO := Lib.hid ho
  have HB : Hid (Below w.heap.size w (w.alloc (.cells #[.int .i64 who, .int .i64 op, .int .i64 cell, .int .u64 old, .int .u64 new, .bool ok] 72))) := below_new (Below.refl _ _) _
  clear hM ho
  go_enter Tryz.func62, Tryz.ntmps62
  go_wp2_with fail
  refine (has_out base _ p c v C L cell (HM.out.later HB.out) HO.out).mono ?_
  rintro r w1 ⟨rfl, rfl⟩
  go_wp2
  go_ret
  exact ⟨rfl, v, C, L, Touched.none HM.out HB.out, rfl, Nat.le_succ _⟩

set_option maxHeartbeats 1000000 in
theorem redo_op (who op old new : Int) (i : Nat) (ok : Bool) (hM : IsMem base w p c v C L) (hi : i < C.length) (ho : op < 0 ∨ 3 < op) :
    Calls Tryz.prog 62 #[pt p, Ev.val ⟨who, op, i, old, new, ok⟩] w (RedoNo base w p c v C.length L.length) := by
  have HM := Lib.hid hM
  have HI := Lib.hid hi
  have q0 : (op == 0) = false := by simp; omega
  have q1 : (op == 1) = false := by simp; omega
  have q2 : (op == 2) = false := by simp; omega
  have q3 : (op == 3) = false := by simp; omega
  have HB : Hid (Below w.heap.size w (w.alloc (.cells #[.int .i64 who, .int .i64 op, .int .i64 i, .int .u64 old, .int .u64 new, .bool ok] 72))) := below_new (Below.refl _ _) _
  clear hM hi ho
  go_enter Tryz.func62, Tryz.ntmps62
  go_wp2_with fail
  refine (has_in base _ p c v C L i (HM.out.later HB.out) HI.out).mono ?_
  rintro r w1 ⟨rfl, rfl⟩
  go_wp2
  go_ret
  exact ⟨rfl, v, C, L, Touched.none HM.out HB.out, rfl, Nat.le_succ _⟩

theorem redo_good (e : Ev) (hM : IsMem base w p c v C L) (hn : e.num) (hb : base ≤ w.heap.size) (hL : L.length < 1000000000) (h : OkE e C) :
    Calls Tryz.prog 62 #[pt p, e.val] w (MemPost base w p c v (C.set e.cell.toNat e.new) (L ++ [e]) (.returned (.bool true))) := by
  obtain ⟨who, op, cell, old, new, ok⟩ := e
  obtain ⟨i, rfl⟩ := Int.eq_ofNat_of_zero_le h.2.2.1
  have hi : i < C.length := by have := h.2.2.2.1; simp only at this; omega
  obtain ⟨y, hy⟩ : ∃ y, C[i]? = some y := ⟨_, List.getElem?_eq_getElem hi⟩
  obtain ⟨h0, h3, ho, hk, hw⟩ := (okE_at (e := ⟨who, op, i, old, new, ok⟩) rfl hy).1 h
  obtain ⟨_, _, n0, n1⟩ := hn
  simp only at h0 h3 ho hk hw n0 n1
  subst ho
  rw [Int.toNat_natCast]
  obtain rfl | rfl | rfl | rfl : op = 0 ∨ op = 1 ∨ op = 2 ∨ op = 3 := by omega
  · obtain rfl := hk (by decide)
    obtain rfl := hw (.inl rfl)
    exact redo_g0 base w p c v C L who i _ hM hy hb hL
  · obtain rfl := hk (by decide)
    exact redo_g1 base w p c v C L who new i _ hM hy hb hL n0 n1
  · cases ok
    · obtain rfl := hw (.inr rfl)
      exact redo_g2f base w p c v C L who i _ hM hy hb hL
    · exact redo_g2t base w p c v C L who new i _ hM hy hb hL n0 n1
  · obtain rfl := hk (by decide)
    exact redo_g3 base w p c v C L who new i _ hM hy hb hL n0 n1

theorem redo_bad (e : Ev) (hM : IsMem base w p c v C L) (hn : e.num) (hb : base ≤ w.heap.size) (hL : L.length < 1000000000) (h : ¬ OkE e C) :
    Calls Tryz.prog 62 #[pt p, e.val] w (RedoNo base w p c v C.length L.length) := by
  obtain ⟨who, op, cell, old, new, ok⟩ := e
  by_cases hin : 0 ≤ cell ∧ cell < C.length
  · obtain ⟨i, rfl⟩ := Int.eq_ofNat_of_zero_le hin.1
    have hi : i < C.length := by omega
    obtain ⟨y, hy⟩ : ∃ y, C[i]? = some y := ⟨_, List.getElem?_eq_getElem hi⟩
    rw [okE_at (e := ⟨who, op, i, old, new, ok⟩) rfl hy] at h
    obtain ⟨_, _, n0, n1⟩ := hn
    simp only at h n0 n1
    by_cases hop : 0 ≤ op ∧ op ≤ 3
    · by_cases ho : y = old
      · subst ho
        obtain rfl | rfl | rfl | rfl : op = 0 ∨ op = 1 ∨ op = 2 ∨ op = 3 := by omega
        · by_cases hnew : y = new
          · subst hnew
            cases ok
            · exact redo_b0c base w p c v C L who i _ hM hy hb hL
            · exact absurd ⟨by decide, by decide, rfl, fun _ => rfl, fun _ => rfl⟩ h
          · exact redo_b0b base w p c v C L who new i _ hM hy hb hL ok hnew
        · cases ok
          · exact redo_b1b base w p c v C L who new i _ hM hy hb hL n0 n1
          · exact absurd ⟨by decide, by decide, rfl, fun _ => rfl, fun h => by simp at h⟩ h
        · cases ok
          · by_cases hnew : y = new
            · exact absurd ⟨by decide, by decide, rfl, fun h => absurd rfl h, fun _ => hnew.symm⟩ h
            · exact redo_b2fb base w p c v C L who new i _ hM hy hb hL hnew
          · exact absurd ⟨by decide, by decide, rfl, fun _ => rfl, fun h => by simp at h⟩ h
        · cases ok
          · exact redo_b3b base w p c v C L who new i _ hM hy hb hL n0 n1
          · exact absurd ⟨by decide, by decide, rfl, fun _ => rfl, fun h => by simp at h⟩ h
      · obtain rfl | rfl | rfl | rfl : op = 0 ∨ op = 1 ∨ op = 2 ∨ op = 3 := by omega
        · exact redo_b0a base w p c v C L who old new i y hM hy hb hL ok ho
        · exact redo_b1a base w p c v C L who old new i y hM hy hb hL ok n0 n1 ho
        · cases ok
          · exact redo_b2fa base w p c v C L who old new i y hM hy hb hL ho
          · exact redo_b2t base w p c v C L who old new i y hM hy hb hL ho
        · exact redo_b3a base w p c v C L who old new i y hM hy hb hL ok n0 n1 ho
    · exact redo_op base w p c v C L who op old new i ok hM hi (by omega)
  · exact redo_out base w p c v C L who op cell old new ok hM (by omega)
end
end Go.Proofs.YthlmekkijknooaaGreat
