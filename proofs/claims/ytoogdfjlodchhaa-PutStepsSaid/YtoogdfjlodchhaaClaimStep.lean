/-
  Contracts of guard, Step, New, Most and what tells of a claim. No condition but that numbers fit their kinds.
-/
import Derived.Test.YtoogdfjlodchhaaClaimLook
namespace Go.Proofs.Ytoogdfjlodchhaa
open Go.RowKit
set_option linter.unusedVariables false

section
variable (base : Nat) (w : World) (b p c : Nat) (v : Value) (C : List Int) (L : List Ev) (k : Cl) (n m : Int) (hz : Nat)

theorem chazard_at (t s so d n i : Int) (j : Nat) (w : World) (h : Lay t s n) (i0 : 0 ≤ i) (i1 : i ≤ t) (hj : 2 * n + i = (j : Int)) :
    Calls Try.prog 48 #[cf t s so d, i64 i] w fun r w' => r = .returned (i64 j) ∧ Below w.heap.size w w' := by
  rw [← hj]
  exact chazard_any t s so d n i w h i0 i1

set_option maxHeartbeats 4000000 in
theorem guard_0 (x : Int) (h4 : x = k.slot + 1) (hk : k.Ok n m hz C) (hs : 1 ≤ k.steps) (j : Nat) (hsl : 2 * n + (k.steps - 1) = (j : Int)) (hx : C[j]? = some x) (hT : IsObj w b k.list) (hM : IsMem base w p c v C L) (ha : ¬ Foot p c v b) (hb : base ≤ w.heap.size) (hL : L.length < 1000000000) :
    Calls Try.prog 77 #[pt b, pt p, i64 (k.steps - 1)] w (ClPost base w b p c v (k.guard m x) C (L ++ [⟨k.who, 0, j, x, x, true⟩]) (.returned (.tuple #[]))) := by
  obtain ⟨hl, hhz, hlen, w0, w1, hm, m0, m1, s0, s1, g0, g1⟩ := hk
  have hn1 := hl.n1; have hn2 := hl.n2; have ht1 := hl.t1; have ht2 := hl.t2
  have HS := Lib.hid (Does.refl (B := (· = b)) hM (fun i hi => hi ▸ ha) hb)
  have hA : AtHead w.drew b k.t k.s k.so k.d k.who k.slot := hT.drew.head
  have hu1 : IntKind.u64.wrap k.slot = k.slot := by rw [IntKind.wrap_u64]; omega
  have hu2 : IntKind.u64.wrap (k.slot + 1) = k.slot + 1 := by rw [IntKind.wrap_u64]; omega
  have HT := Lib.hid hT
  have HX := Lib.hid hx
  have HP := Lib.hid (fun W (hW : IsObj W b k.list) => pass_any W b k n m hl w0 w1 hm m0 m1 s0 s1 hW)
  have HSL := Lib.hid hsl
  unfold Cl.guard
  rw [if_pos h4]
  have q1 : (x == k.slot + 1) = true := by simp [h4]
  clear h4
  clear hT hx hM ha hm hhz hlen hsl
  go_enter Try.func77, Try.ntmps77
  go_wp2_with fail
  refine wp_region_seqS ((fun w' => AtHead w' b k.t k.s k.so k.d k.who k.slot)) ((0, true) :: (1, true) :: (2, true) :: (3, true) :: (4, true) :: (5, true) :: (6, true) :: (7, true) :: (8, true) :: (9, true) :: (12, true) :: (13, true) :: (14, true) :: (15, true) :: (16, true) :: (17, true) :: (10, false) :: (11, false) :: (18, true) :: []) (by kernel_rfl) (by kernel_rfl) (by kernel_rfl) (by decide) (fun _ _ _ _ _ h => h) (hA) ?_
  repeat (first | (refine seq_take (v := ?_) rfl ?_ ?_ ?_; rotate_left 1; rfl; (focus (intro wS hSw; obtain ⟨c0, c1, c2, c3, c4, c5⟩ := hSw; go_simp; first | done | with_reducible rfl)); (try simp only [Act.put, List.setIfInBounds_toArray, List.set_cons_zero, List.set_cons_succ])) | (refine seq_skip rfl ?_ ?_; rfl; (try simp only [Act.put, List.setIfInBounds_toArray, List.set_cons_zero, List.set_cons_succ])))
  refine seq_run rfl (fun K hK => ?_)
  go_simp
  go_at_call 48
  refine (chazard_at _ _ _ _ n _ j _ hl (by omega) (by omega) HSL.out).mono ?_
  rintro r w1 ⟨rfl, hb1⟩
  (try go_wp2_with fail)
  replace HT := Lib.hid (HT.out.drew.later hb1)
  replace HS := Lib.hid (HS.out.drew.later hb1)
  clear hb1 hA
  refine hK.out _ _ (HT.out.head) (fun _ => ?_)
  (try simp only [Act.put, List.setIfInBounds_toArray, List.set_cons_zero, List.set_cons_succ])
  clear hK K
  repeat (first | (refine seq_take (v := ?_) rfl ?_ ?_ ?_; rotate_left 1; rfl; (focus (intro wS hSw; obtain ⟨c0, c1, c2, c3, c4, c5⟩ := hSw; go_simp; first | done | with_reducible rfl)); (try simp only [Act.put, List.setIfInBounds_toArray, List.set_cons_zero, List.set_cons_succ])) | (refine seq_skip rfl ?_ ?_; rfl; (try simp only [Act.put, List.setIfInBounds_toArray, List.set_cons_zero, List.set_cons_succ])))
  refine seq_run rfl (fun K hK => ?_)
  go_simp
  go_at_call 89
  refine (load_in base _ p c _ _ _ k.who j x HS.out.mem HX.out HS.out.size hL).mono ?_
  rintro r w2 ⟨rfl, v2, hT2⟩
  (try go_wp2_with fail)
  have hlt1 := HT.out.lt
  replace HT := Lib.hid (HT.out.keep hT2.keep (HS.out.apart b rfl))
  replace HS := Lib.hid (HS.out.cells (fun i hi => hi ▸ hlt1) hT2)
  clear hT2
  refine hK.out _ _ (HT.out.head) (fun _ => ?_)
  (try simp only [Act.put, List.setIfInBounds_toArray, List.set_cons_zero, List.set_cons_succ])
  clear hK K
  repeat (first | (refine seq_take (v := ?_) rfl ?_ ?_ ?_; rotate_left 1; rfl; (focus (intro wS hSw; obtain ⟨c0, c1, c2, c3, c4, c5⟩ := hSw; go_simp; first | done | with_reducible rfl)); (try simp only [Act.put, List.setIfInBounds_toArray, List.set_cons_zero, List.set_cons_succ])) | (refine seq_skip rfl ?_ ?_; rfl; (try simp only [Act.put, List.setIfInBounds_toArray, List.set_cons_zero, List.set_cons_succ])))
  refine seq_done ?_
  go_wp2_with fail
  refine (HP.out _ HT.out).mono ?_
  rintro r w5 ⟨rfl, hT5, hK5⟩
  go_wp2
  refine bodyPost_ret (results_none rfl _ _ _) rfl ?_
  exact ⟨rfl, _, HS.out.own hK5, hT5⟩

set_option maxHeartbeats 4000000 in
theorem guard_1 (x : Int) (h4 : x ≠ k.slot + 1 ∧ k.steps = k.t) (hk : k.Ok n m hz C) (hs : 1 ≤ k.steps) (j : Nat) (hsl : 2 * n + (k.steps - 1) = (j : Int)) (hx : C[j]? = some x) (hT : IsObj w b k.list) (hM : IsMem base w p c v C L) (ha : ¬ Foot p c v b) (hb : base ≤ w.heap.size) (hL : L.length < 1000000000) :
    Calls Try.prog 77 #[pt b, pt p, i64 (k.steps - 1)] w (ClPost base w b p c v (k.guard m x) C (L ++ [⟨k.who, 0, j, x, x, true⟩]) (.returned (.tuple #[]))) := by
  obtain ⟨hl, hhz, hlen, w0, w1, hm, m0, m1, s0, s1, g0, g1⟩ := hk
  have hn1 := hl.n1; have hn2 := hl.n2; have ht1 := hl.t1; have ht2 := hl.t2
  have HS := Lib.hid (Does.refl (B := (· = b)) hM (fun i hi => hi ▸ ha) hb)
  have hA : AtHead w.drew b k.t k.s k.so k.d k.who k.slot := hT.drew.head
  have hu1 : IntKind.u64.wrap k.slot = k.slot := by rw [IntKind.wrap_u64]; omega
  have hu2 : IntKind.u64.wrap (k.slot + 1) = k.slot + 1 := by rw [IntKind.wrap_u64]; omega
  have HT := Lib.hid hT
  have HX := Lib.hid hx
  have HP := Lib.hid (fun W (hW : IsObj W b k.list) => pass_any W b k n m hl w0 w1 hm m0 m1 s0 s1 hW)
  have HSL := Lib.hid hsl
  unfold Cl.guard
  obtain ⟨h1, h2⟩ := h4
  rw [if_neg h1, if_pos h2]
  have q1 : (x == k.slot + 1) = false := by simp [h1]
  have q2 : (k.steps - 1 == k.t - 1) = true := by simp; omega
  clear h1 h2
  clear hT hx hM ha hm hhz hlen hsl
  go_enter Try.func77, Try.ntmps77
  go_wp2_with fail
  refine wp_region_seqS ((fun w' => AtHead w' b k.t k.s k.so k.d k.who k.slot)) ((0, true) :: (1, true) :: (2, true) :: (3, true) :: (4, true) :: (5, true) :: (6, true) :: (7, true) :: (8, true) :: (9, true) :: (12, true) :: (13, true) :: (14, true) :: (15, true) :: (16, true) :: (17, true) :: (10, false) :: (11, false) :: (18, true) :: []) (by kernel_rfl) (by kernel_rfl) (by kernel_rfl) (by decide) (fun _ _ _ _ _ h => h) (hA) ?_
  repeat (first | (refine seq_take (v := ?_) rfl ?_ ?_ ?_; rotate_left 1; rfl; (focus (intro wS hSw; obtain ⟨c0, c1, c2, c3, c4, c5⟩ := hSw; go_simp; first | done | with_reducible rfl)); (try simp only [Act.put, List.setIfInBounds_toArray, List.set_cons_zero, List.set_cons_succ])) | (refine seq_skip rfl ?_ ?_; rfl; (try simp only [Act.put, List.setIfInBounds_toArray, List.set_cons_zero, List.set_cons_succ])))
  refine seq_run rfl (fun K hK => ?_)
  go_simp
  go_at_call 48
  refine (chazard_at _ _ _ _ n _ j _ hl (by omega) (by omega) HSL.out).mono ?_
  rintro r w1 ⟨rfl, hb1⟩
  (try go_wp2_with fail)
  replace HT := Lib.hid (HT.out.drew.later hb1)
  replace HS := Lib.hid (HS.out.drew.later hb1)
  clear hb1 hA
  refine hK.out _ _ (HT.out.head) (fun _ => ?_)
  (try simp only [Act.put, List.setIfInBounds_toArray, List.set_cons_zero, List.set_cons_succ])
  clear hK K
  repeat (first | (refine seq_take (v := ?_) rfl ?_ ?_ ?_; rotate_left 1; rfl; (focus (intro wS hSw; obtain ⟨c0, c1, c2, c3, c4, c5⟩ := hSw; go_simp; first | done | with_reducible rfl)); (try simp only [Act.put, List.setIfInBounds_toArray, List.set_cons_zero, List.set_cons_succ])) | (refine seq_skip rfl ?_ ?_; rfl; (try simp only [Act.put, List.setIfInBounds_toArray, List.set_cons_zero, List.set_cons_succ])))
  refine seq_run rfl (fun K hK => ?_)
  go_simp
  go_at_call 89
  refine (load_in base _ p c _ _ _ k.who j x HS.out.mem HX.out HS.out.size hL).mono ?_
  rintro r w2 ⟨rfl, v2, hT2⟩
  (try go_wp2_with fail)
  have hlt1 := HT.out.lt
  replace HT := Lib.hid (HT.out.keep hT2.keep (HS.out.apart b rfl))
  replace HS := Lib.hid (HS.out.cells (fun i hi => hi ▸ hlt1) hT2)
  clear hT2
  refine hK.out _ _ (HT.out.head) (fun _ => ?_)
  (try simp only [Act.put, List.setIfInBounds_toArray, List.set_cons_zero, List.set_cons_succ])
  clear hK K
  repeat (first | (refine seq_take (v := ?_) rfl ?_ ?_ ?_; rotate_left 1; rfl; (focus (intro wS hSw; obtain ⟨c0, c1, c2, c3, c4, c5⟩ := hSw; go_simp; first | done | with_reducible rfl)); (try simp only [Act.put, List.setIfInBounds_toArray, List.set_cons_zero, List.set_cons_succ])) | (refine seq_skip rfl ?_ ?_; rfl; (try simp only [Act.put, List.setIfInBounds_toArray, List.set_cons_zero, List.set_cons_succ])))
  refine seq_done ?_
  obtain ⟨c0, c1, c2, c3, c4, c5, c6, c7, c8, c9, c10, c11, c12⟩ := HT.out.cl
  have ff := HT.out.fz 12
  go_wp2
  refine bodyPost_ret (results_none rfl _ _ _) rfl ?_
  exact ⟨rfl, _, HS.out.own ((Keep.refl _ _).own 12 _), HT.out.set 12 (.int .i64 1)⟩

set_option maxHeartbeats 4000000 in
theorem guard_2 (x : Int) (h4 : x ≠ k.slot + 1 ∧ ¬ k.steps = k.t) (hk : k.Ok n m hz C) (hs : 1 ≤ k.steps) (j : Nat) (hsl : 2 * n + (k.steps - 1) = (j : Int)) (hx : C[j]? = some x) (hT : IsObj w b k.list) (hM : IsMem base w p c v C L) (ha : ¬ Foot p c v b) (hb : base ≤ w.heap.size) (hL : L.length < 1000000000) :
    Calls Try.prog 77 #[pt b, pt p, i64 (k.steps - 1)] w (ClPost base w b p c v (k.guard m x) C (L ++ [⟨k.who, 0, j, x, x, true⟩]) (.returned (.tuple #[]))) := by
  obtain ⟨hl, hhz, hlen, w0, w1, hm, m0, m1, s0, s1, g0, g1⟩ := hk
  have hn1 := hl.n1; have hn2 := hl.n2; have ht1 := hl.t1; have ht2 := hl.t2
  have HS := Lib.hid (Does.refl (B := (· = b)) hM (fun i hi => hi ▸ ha) hb)
  have hA : AtHead w.drew b k.t k.s k.so k.d k.who k.slot := hT.drew.head
  have hu1 : IntKind.u64.wrap k.slot = k.slot := by rw [IntKind.wrap_u64]; omega
  have hu2 : IntKind.u64.wrap (k.slot + 1) = k.slot + 1 := by rw [IntKind.wrap_u64]; omega
  have HT := Lib.hid hT
  have HX := Lib.hid hx
  have HP := Lib.hid (fun W (hW : IsObj W b k.list) => pass_any W b k n m hl w0 w1 hm m0 m1 s0 s1 hW)
  have HSL := Lib.hid hsl
  unfold Cl.guard
  obtain ⟨h1, h2⟩ := h4
  rw [if_neg h1, if_neg h2]
  have q1 : (x == k.slot + 1) = false := by simp [h1]
  have q2 : (k.steps - 1 == k.t - 1) = false := by simp; omega
  clear h1 h2
  clear hT hx hM ha hm hhz hlen hsl
  go_enter Try.func77, Try.ntmps77
  go_wp2_with fail
  refine wp_region_seqS ((fun w' => AtHead w' b k.t k.s k.so k.d k.who k.slot)) ((0, true) :: (1, true) :: (2, true) :: (3, true) :: (4, true) :: (5, true) :: (6, true) :: (7, true) :: (8, true) :: (9, true) :: (12, true) :: (13, true) :: (14, true) :: (15, true) :: (16, true) :: (17, true) :: (10, false) :: (11, false) :: (18, true) :: []) (by kernel_rfl) (by kernel_rfl) (by kernel_rfl) (by decide) (fun _ _ _ _ _ h => h) (hA) ?_
  repeat (first | (refine seq_take (v := ?_) rfl ?_ ?_ ?_; rotate_left 1; rfl; (focus (intro wS hSw; obtain ⟨c0, c1, c2, c3, c4, c5⟩ := hSw; go_simp; first | done | with_reducible rfl)); (try simp only [Act.put, List.setIfInBounds_toArray, List.set_cons_zero, List.set_cons_succ])) | (refine seq_skip rfl ?_ ?_; rfl; (try simp only [Act.put, List.setIfInBounds_toArray, List.set_cons_zero, List.set_cons_succ])))
  refine seq_run rfl (fun K hK => ?_)
  go_simp
  go_at_call 48
  refine (chazard_at _ _ _ _ n _ j _ hl (by omega) (by omega) HSL.out).mono ?_
  rintro r w1 ⟨rfl, hb1⟩
  (try go_wp2_with fail)
  replace HT := Lib.hid (HT.out.drew.later hb1)
  replace HS := Lib.hid (HS.out.drew.later hb1)
  clear hb1 hA
  refine hK.out _ _ (HT.out.head) (fun _ => ?_)
  (try simp only [Act.put, List.setIfInBounds_toArray, List.set_cons_zero, List.set_cons_succ])
  clear hK K
  repeat (first | (refine seq_take (v := ?_) rfl ?_ ?_ ?_; rotate_left 1; rfl; (focus (intro wS hSw; obtain ⟨c0, c1, c2, c3, c4, c5⟩ := hSw; go_simp; first | done | with_reducible rfl)); (try simp only [Act.put, List.setIfInBounds_toArray, List.set_cons_zero, List.set_cons_succ])) | (refine seq_skip rfl ?_ ?_; rfl; (try simp only [Act.put, List.setIfInBounds_toArray, List.set_cons_zero, List.set_cons_succ])))
  refine seq_run rfl (fun K hK => ?_)
  go_simp
  go_at_call 89
  refine (load_in base _ p c _ _ _ k.who j x HS.out.mem HX.out HS.out.size hL).mono ?_
  rintro r w2 ⟨rfl, v2, hT2⟩
  (try go_wp2_with fail)
  have hlt1 := HT.out.lt
  replace HT := Lib.hid (HT.out.keep hT2.keep (HS.out.apart b rfl))
  replace HS := Lib.hid (HS.out.cells (fun i hi => hi ▸ hlt1) hT2)
  clear hT2
  refine hK.out _ _ (HT.out.head) (fun _ => ?_)
  (try simp only [Act.put, List.setIfInBounds_toArray, List.set_cons_zero, List.set_cons_succ])
  clear hK K
  repeat (first | (refine seq_take (v := ?_) rfl ?_ ?_ ?_; rotate_left 1; rfl; (focus (intro wS hSw; obtain ⟨c0, c1, c2, c3, c4, c5⟩ := hSw; go_simp; first | done | with_reducible rfl)); (try simp only [Act.put, List.setIfInBounds_toArray, List.set_cons_zero, List.set_cons_succ])) | (refine seq_skip rfl ?_ ?_; rfl; (try simp only [Act.put, List.setIfInBounds_toArray, List.set_cons_zero, List.set_cons_succ])))
  refine seq_done ?_
  obtain ⟨c0, c1, c2, c3, c4, c5, c6, c7, c8, c9, c10, c11, c12⟩ := HT.out.cl
  have ff := HT.out.fz 6
  go_wp2
  go_end0
  exact ⟨rfl, _, HS.out.own ((Keep.refl _ _).own 6 _), HT.out.set 6 (.int .i64 (k.steps + 1))⟩

theorem look_any (x : Int) (hk : k.Ok n m hz C) (j : Nat) (hsl : k.slot = (j : Int)) (hx : C[j]? = some x) (hT : IsObj w b k.list) (hM : IsMem base w p c v C L) (ha : ¬ Foot p c v b) (hb : base ≤ w.heap.size) (hL : L.length < 1000000000) :
    Calls Try.prog 76 #[pt b, pt p] w (ClPost base w b p c v (k.look m x) C (L ++ [⟨k.who, 0, j, x, x, true⟩]) (.returned (.tuple #[]))) := by
  by_cases h1 : x / 8 % 8192 = 8191
  · exact look_0 base w b p c v C L k n m hz x h1 hk j hsl hx hT hM ha hb hL
  · by_cases h2 : x % 4 = 0
    · exact look_1 base w b p c v C L k n m hz x ⟨h1, h2⟩ hk j hsl hx hT hM ha hb hL
    · by_cases h3 : x % 4 = 2
      · exact look_2 base w b p c v C L k n m hz x ⟨h1, h2, h3⟩ hk j hsl hx hT hM ha hb hL
      · exact look_3 base w b p c v C L k n m hz x ⟨h1, h2, h3⟩ hk j hsl hx hT hM ha hb hL

theorem guard_any (x : Int) (hk : k.Ok n m hz C) (hs : 1 ≤ k.steps) (j : Nat) (hsl : 2 * n + (k.steps - 1) = (j : Int)) (hx : C[j]? = some x) (hT : IsObj w b k.list) (hM : IsMem base w p c v C L) (ha : ¬ Foot p c v b) (hb : base ≤ w.heap.size) (hL : L.length < 1000000000) :
    Calls Try.prog 77 #[pt b, pt p, i64 (k.steps - 1)] w (ClPost base w b p c v (k.guard m x) C (L ++ [⟨k.who, 0, j, x, x, true⟩]) (.returned (.tuple #[]))) := by
  by_cases h1 : x = k.slot + 1
  · exact guard_0 base w b p c v C L k n m hz x h1 hk hs j hsl hx hT hM ha hb hL
  · by_cases h2 : k.steps = k.t
    · exact guard_1 base w b p c v C L k n m hz x ⟨h1, h2⟩ hk hs j hsl hx hT hM ha hb hL
    · exact guard_2 base w b p c v C L k n m hz x ⟨h1, h2⟩ hk hs j hsl hx hT hM ha hb hL

set_option maxHeartbeats 1000000 in
theorem clstep_rest (hp : k.ph ≠ 0) (hT : IsObj w b k.list) (hM : IsMem base w p c v C L) (ha : ¬ Foot p c v b) (hb : base ≤ w.heap.size) :
    Calls Try.prog 25 #[pt b, pt p] w (ClPost base w b p c v k C L (.returned (i64 k.ph))) := by
  have qp : (k.ph != 0) = true := by simp [hp]
  have HS := Lib.hid (Does.refl (B := (· = b)) hM (fun i hi => hi ▸ ha) hb)
  have HT := Lib.hid hT
  obtain ⟨c0, c1, c2, c3, c4, c5, c6, c7, c8, c9, c10, c11, c12⟩ := hT.cl
  clear hT hM ha hp
  go_enter Try.func25, Try.ntmps25
  go_wp2
  go_ret
  exact ⟨rfl, _, HS.out, HT.out⟩

set_option maxHeartbeats 1000000 in
theorem clstep_look (k1 : Cl) (C1 : List Int) (L1 : List Ev) (hp : k.ph = 0) (hs : k.steps = 0) (hT : IsObj w b k.list)
    (hin : Calls Try.prog 76 #[pt b, pt p] w (ClPost base w b p c v k1 C1 L1 (.returned (.tuple #[])))) :
    Calls Try.prog 25 #[pt b, pt p] w (ClPost base w b p c v k1 C1 L1 (.returned (i64 k1.ph))) := by
  have qp : (k.ph != 0) = false := by simp [hp]
  have qs : (k.steps == 0) = true := by simp [hs]
  have HIN := Lib.hid hin
  obtain ⟨c0, c1, c2, c3, c4, c5, c6, c7, c8, c9, c10, c11, c12⟩ := hT.cl
  clear hin hs hp hT
  go_enter Try.func25, Try.ntmps25
  go_wp2_with fail
  refine HIN.out.mono ?_
  rintro r w1 ⟨rfl, v1, hS, hT1⟩
  have HT1 := Lib.hid hT1
  have HS := Lib.hid hS
  clear c0 c1 c2 c3 c4 c5 c6 c7 c8 c9 c10 c11 c12 hS
  obtain ⟨c0, c1, c2, c3, c4, c5, c6, c7, c8, c9, c10, c11, c12⟩ := hT1.cl
  clear hT1
  go_wp2
  go_ret
  exact ⟨rfl, _, HS.out, HT1.out⟩

set_option maxHeartbeats 1000000 in
theorem clstep_guard (k1 : Cl) (C1 : List Int) (L1 : List Ev) (hp : k.ph = 0) (hs : 1 ≤ k.steps) (hs2 : k.steps ≤ 64) (hT : IsObj w b k.list)
    (hin : Calls Try.prog 77 #[pt b, pt p, i64 (k.steps - 1)] w (ClPost base w b p c v k1 C1 L1 (.returned (.tuple #[])))) :
    Calls Try.prog 25 #[pt b, pt p] w (ClPost base w b p c v k1 C1 L1 (.returned (i64 k1.ph))) := by
  have qp : (k.ph != 0) = false := by simp [hp]
  have qs : (k.steps == 0) = false := by simp; omega
  have HIN := Lib.hid hin
  obtain ⟨c0, c1, c2, c3, c4, c5, c6, c7, c8, c9, c10, c11, c12⟩ := hT.cl
  clear hin hp hT
  go_enter Try.func25, Try.ntmps25
  go_wp2_with fail
  refine HIN.out.mono ?_
  rintro r w1 ⟨rfl, v1, hS, hT1⟩
  have HT1 := Lib.hid hT1
  have HS := Lib.hid hS
  clear c0 c1 c2 c3 c4 c5 c6 c7 c8 c9 c10 c11 c12 hS
  obtain ⟨c0, c1, c2, c3, c4, c5, c6, c7, c8, c9, c10, c11, c12⟩ := hT1.cl
  clear hT1
  go_wp2
  go_ret
  exact ⟨rfl, _, HS.out, HT1.out⟩

/-- A step does what 'Cl.step' says. -/
theorem clstep_any (hk : k.Ok n m hz C) (hT : IsObj w b k.list) (hM : IsMem base w p c v C L) (ha : ¬ Foot p c v b) (hb : base ≤ w.heap.size) (hL : L.length < 1000000000) :
    Calls Try.prog 25 #[pt b, pt p] w (ClPost base w b p c v (k.step m hz C) C (L ++ k.ev hz C) (.returned (i64 (k.step m hz C).ph))) := by
  have hn1 := hk.lay.n1; have hn2 := hk.lay.n2; have ht1 := hk.lay.t1; have ht2 := hk.lay.t2
  have h1 := hk.hz; have h2 := hk.len; have h3 := hk.m0; have h4 := hk.m1; have h5 := hk.s0; have h6 := hk.s1; have h7 := hk.g0; have h8 := hk.g1
  unfold Cl.step Cl.ev
  by_cases hp : k.ph = 0
  · rw [if_pos hp, if_pos hp]
    by_cases hs : k.steps = 0
    · rw [if_pos hs]
      have hc : k.cell hz = k.slot.toNat := if_pos hs
      rw [hc]
      exact clstep_look base w b p c v k _ _ _ hp hs hT (look_any base w b p c v C L k n m hz _ hk k.slot.toNat (by omega) (getD_at (by omega)) hT hM ha hb hL)
    · rw [if_neg hs]
      have hc : k.cell hz = hz + (k.steps - 1).toNat := if_neg hs
      rw [hc]
      exact clstep_guard base w b p c v k _ _ _ hp (by omega) (by omega) hT (guard_any base w b p c v C L k n m hz _ hk (by omega) _ (by omega) (getD_at (by omega)) hT hM ha hb hL)
  · rw [if_neg hp, if_neg hp, List.append_nil]
    exact clstep_rest base w b p c v C L k hp hT hM ha hb

set_option maxHeartbeats 1000000 in
theorem clphase_any (hT : IsObj w b k.list) : Calls Try.prog 24 #[pt b] w fun r w' => r = .returned (i64 k.ph) ∧ w = w' := by
  obtain ⟨c0, c1, c2, c3, c4, c5, c6, c7, c8, c9, c10, c11, c12⟩ := hT.cl
  go_enter Try.func24, Try.ntmps24
  go_wp2
  go_ret
  exact ⟨rfl, rfl⟩

set_option maxHeartbeats 1000000 in
theorem clslot_any (hT : IsObj w b k.list) : Calls Try.prog 29 #[pt b] w fun r w' => r = .returned (i64 k.slot) ∧ w = w' := by
  obtain ⟨c0, c1, c2, c3, c4, c5, c6, c7, c8, c9, c10, c11, c12⟩ := hT.cl
  go_enter Try.func29, Try.ntmps29
  go_wp2
  go_ret
  exact ⟨rfl, rfl⟩

set_option maxHeartbeats 1000000 in
theorem clword_any (hp : k.ph = 1) (hT : IsObj w b k.list) : Calls Try.prog 30 #[pt b] w fun r w' => r = .returned (wd k.ws k.we k.wg k.wl k.wh) ∧ Below w.heap.size w w' := by
  have q : (k.ph != 1) = false := by simp [hp]
  have hlt := hT.lt
  obtain ⟨c0, c1, c2, c3, c4, c5, c6, c7, c8, c9, c10, c11, c12⟩ := hT.cl
  clear hp hT
  go_enter Try.func30, Try.ntmps30
  go_wp2
  exact bodyPost_ret (v := wd k.ws k.we k.wg k.wl k.wh) (by simp [results, Try.results30, go_sem]) rfl ⟨rfl, by first | exact below_set (below_set (below_set (below_set (below_set (below_new (Below.refl _ _) _) (by simp) _) (by simp) _) (by simp) _) (by simp) _) (by simp) _ | exact below_new (Below.refl _ _) _⟩

/-- A claim that is begun. -/
def cl0 (t s so d who m : Int) : Cl := ⟨t, s, so, d, who, m, 0, 0, 0, 0, 0, 0, 0⟩

set_option maxHeartbeats 2000000 in
theorem clnew_any (t s so d who : Int) (hl : Lay t s n) (w0 : 0 ≤ who) (w1 : who < t) (hm : who * s = m) (m0 : 0 ≤ m) (m1 : m + s ≤ n) :
    Calls Try.prog 19 #[cf t s so d, i64 who] w fun r w' => ∃ b, r = .returned (pt b) ∧ IsObj w' b (cl0 t s so d who m).list ∧ Below w.heap.size w w' ∧ w.heap.size ≤ b := by
  have Hm := Lib.hid hm
  have hs1 := hl.s1
  clear hm
  go_enter Try.func19, Try.ntmps19
  go_wp2_with fail
  refine wp_region_seq ((0, true) :: (1, true) :: (2, true) :: (3, true) :: (4, false) :: (5, true) :: (6, false) :: (7, true) :: []) (by kernel_rfl) (by kernel_rfl) (by kernel_rfl) (by decide) (fun _ _ _ _ _ h => h) (fun hHeld => ?_)
  repeat (first
    | (refine seq_take (v := ?_) rfl ?_ ?_ ?_; rotate_left 1; rfl; (focus (intro wS hSw; have hk := below_rule hSw; go_simp; first | done | with_reducible rfl)); (try simp only [Act.put, List.setIfInBounds_toArray, List.set_cons_zero, List.set_cons_succ]))
    | (refine seq_skip rfl ?_ ?_; rfl; (try simp only [Act.put, List.setIfInBounds_toArray, List.set_cons_zero, List.set_cons_succ]))
    | (refine seq_run rfl (fun K hK => ?_); go_simp; (try (first | (go_at_call 49; refine (cfirst_any t s so d n who m _ hl w0 w1 Hm.out m0 (by omega)).mono ?_; rintro e w' ⟨rfl, hb'⟩))); (try go_wp2_with fail); refine hK.out _ _ ?_ ?_; (focus (first | exact below_step hHeld hb' | exact below_new hHeld _ | exact hHeld)); (try clear hb'); clear hHeld hK K; intro hHeld; (try simp only [Act.put, List.setIfInBounds_toArray, List.set_cons_zero, List.set_cons_succ])))
  first | refine seq_done ?_ | skip
  go_wp2
  go_ret
  have hs := hHeld.size
  simp only [World.alloc, Array.size_push] at hs
  exact ⟨_, rfl, IsObj.made w' (cl0 t s so d who m).list 112, below_step (below_new (Below.refl _ _) _) hHeld, by omega⟩

set_option maxHeartbeats 1000000 in
theorem clmost_any (t s so d : Int) (t1 : 1 ≤ t) (t2 : t ≤ 64) (s1 : 1 ≤ s) (s2 : s ≤ 64) (q : Int) (hq : s * (t + 1) = q) (q0 : 0 ≤ q) (q1 : q ≤ 10000) :
    Calls Try.prog 72 #[cf t s so d] w fun r w' => r = .returned (i64 q) ∧ Below w.heap.size w w' := by
  have hw : wrap64 (s * (t + 1)) = q := by rw [hq]; unfold wrap64; omega
  have Hw := Lib.hid hw
  clear hw hq
  go_enter Try.func72, Try.ntmps72
  go_wp2
  go_ret
  exact ⟨ret_i64 Hw.out, below_new (Below.refl _ _) _⟩
end

end Go.Proofs.Ytoogdfjlodchhaa
