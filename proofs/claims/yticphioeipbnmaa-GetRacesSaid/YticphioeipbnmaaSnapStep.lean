/-
  The contract of Step of package snap. No condition but that numbers fit their kinds.
-/
import Derived.Test.YticphioeipbnmaaSnapCalls
namespace Go.Proofs.Yticphioeipbnmaa
open Go.RowKit
set_option linter.unusedVariables false

/-- What a step of a snap leaves. -/
def SnPost (base : Nat) (w : World) (b g p c : Nat) (v : Value) (k' : Sn) (C' : List Int) (L' : List Ev) (e0 : Ending) (e : Ending) (w' : World) : Prop :=
  e = e0 ∧ ∃ v', Does (fun i => i = b ∨ i = g) base w w' p c v v' C' L' ∧ IsSn base w' b g k'

section
variable (base : Nat) (w : World) (b g p c : Nat) (v : Value) (C : List Int) (L : List Ev) (k : Sn) (n : Int)

set_option maxHeartbeats 2000000 in
theorem snend_0 (h4 : k.passes = 0) (p0 : 0 ≤ k.passes) (p1 : k.passes ≤ 1000000) (hT : IsSn base w b g k) :
    Calls Try.prog 44 #[pt b] w fun r w' => r = .returned (.tuple #[]) ∧ IsSn base w' b g k.fin ∧ Keep (· = b) w w' := by
  have hfin : k.fin = { k with passes := k.passes + 1, read := 0, turned := false } := by unfold Sn.fin; rw [if_neg (by rintro ⟨h, h'⟩; omega)]
  rw [hfin]
  clear hfin
  obtain ⟨c0, c1, c2, c3, c4, c5, c6, c7, c8, c9, c10⟩ := hT.at
  have f3 := hT.obj.fz 6
  have f5 := hT.obj.fz 8
  have f6 := hT.obj.fz 9
  have f7 := hT.obj.fz 10
  have e1 : wrap64 (k.passes + 1) = k.passes + 1 := by unfold wrap64; omega
  have q1 : decide ((1 : Int) < k.passes + 1) = false := decide_eq_false (by omega)
  have HT := Lib.hid hT
  clear h4 hT
  go_enter Try.func44, Try.ntmps44
  go_wp2
  go_end0
  have h1 := HT.out.set 9 (.int .i64 (k.passes + 1)) (k' := { k with passes := k.passes + 1 }) rfl rfl rfl
  have h2 := h1.set 6 (.int .i64 0) (k' := { k with passes := k.passes + 1, read := 0 }) rfl rfl rfl
  exact ⟨rfl, h2.set 8 (.bool false) (k' := { k with passes := k.passes + 1, read := 0, turned := false }) rfl rfl rfl, (((Keep.refl _ _).own 9 _).own 6 _).own 8 _⟩

set_option maxHeartbeats 2000000 in
theorem snend_1 (h4 : 0 < k.passes ∧ k.turned = true) (p0 : 0 ≤ k.passes) (p1 : k.passes ≤ 1000000) (hT : IsSn base w b g k) :
    Calls Try.prog 44 #[pt b] w fun r w' => r = .returned (.tuple #[]) ∧ IsSn base w' b g k.fin ∧ Keep (· = b) w w' := by
  have hfin : k.fin = { k with passes := k.passes + 1, read := 0, turned := false } := by unfold Sn.fin; rw [if_neg (by rintro ⟨h, h'⟩; rw [h4.2] at h'; cases h')]
  rw [hfin]
  clear hfin
  obtain ⟨c0, c1, c2, c3, c4, c5, c6, c7, c8, c9, c10⟩ := hT.at
  have f3 := hT.obj.fz 6
  have f5 := hT.obj.fz 8
  have f6 := hT.obj.fz 9
  have f7 := hT.obj.fz 10
  have e1 : wrap64 (k.passes + 1) = k.passes + 1 := by unfold wrap64; omega
  have q1 : decide ((1 : Int) < k.passes + 1) = true := decide_eq_true (by omega)
  rw [h4.2] at c8
  have HT := Lib.hid hT
  clear h4 hT
  go_enter Try.func44, Try.ntmps44
  go_wp2
  go_end0
  have h1 := HT.out.set 9 (.int .i64 (k.passes + 1)) (k' := { k with passes := k.passes + 1 }) rfl rfl rfl
  have h2 := h1.set 6 (.int .i64 0) (k' := { k with passes := k.passes + 1, read := 0 }) rfl rfl rfl
  exact ⟨rfl, h2.set 8 (.bool false) (k' := { k with passes := k.passes + 1, read := 0, turned := false }) rfl rfl rfl, (((Keep.refl _ _).own 9 _).own 6 _).own 8 _⟩

set_option maxHeartbeats 2000000 in
theorem snend_2 (h4 : 0 < k.passes ∧ k.turned = false) (p0 : 0 ≤ k.passes) (p1 : k.passes ≤ 1000000) (hT : IsSn base w b g k) :
    Calls Try.prog 44 #[pt b] w fun r w' => r = .returned (.tuple #[]) ∧ IsSn base w' b g k.fin ∧ Keep (· = b) w w' := by
  have hfin : k.fin = { k with passes := k.passes + 1, ph := 1, read := 0, turned := false } := by unfold Sn.fin; rw [if_pos ⟨by omega, h4.2⟩]
  rw [hfin]
  clear hfin
  obtain ⟨c0, c1, c2, c3, c4, c5, c6, c7, c8, c9, c10⟩ := hT.at
  have f3 := hT.obj.fz 6
  have f5 := hT.obj.fz 8
  have f6 := hT.obj.fz 9
  have f7 := hT.obj.fz 10
  have e1 : wrap64 (k.passes + 1) = k.passes + 1 := by unfold wrap64; omega
  have q1 : decide ((1 : Int) < k.passes + 1) = true := decide_eq_true (by omega)
  rw [h4.2] at c8
  have HT := Lib.hid hT
  clear h4 hT
  go_enter Try.func44, Try.ntmps44
  go_wp2
  go_end0
  have h1 := HT.out.set 9 (.int .i64 (k.passes + 1)) (k' := { k with passes := k.passes + 1 }) rfl rfl rfl
  have h2 := h1.set 10 (.int .i64 1) (k' := { k with passes := k.passes + 1, ph := 1 }) rfl rfl rfl
  have h3 := h2.set 6 (.int .i64 0) (k' := { k with passes := k.passes + 1, ph := 1, read := 0 }) rfl rfl rfl
  exact ⟨rfl, h3.set 8 (.bool false) (k' := { k with passes := k.passes + 1, ph := 1, read := 0, turned := false }) rfl rfl rfl, ((((Keep.refl _ _).own 9 _).own 10 _).own 6 _).own 8 _⟩

theorem snend_any (p0 : 0 ≤ k.passes) (p1 : k.passes ≤ 1000000) (hT : IsSn base w b g k) :
    Calls Try.prog 44 #[pt b] w fun r w' => r = .returned (.tuple #[]) ∧ IsSn base w' b g k.fin ∧ Keep (· = b) w w' := by
  by_cases h0 : k.passes = 0
  · exact snend_0 base w b g k h0 p0 p1 hT
  · cases ht : k.turned with
    | true => exact snend_1 base w b g k ⟨by omega, ht⟩ p0 p1 hT
    | false => exact snend_2 base w b g k ⟨by omega, ht⟩ p0 p1 hT

set_option maxHeartbeats 1000000 in
theorem snstep_rest (hp : k.ph ≠ 0) (hT : IsSn base w b g k) (hM : IsMem base w p c v C L) (ha : ∀ i, (i = b ∨ i = g) → ¬ Foot p c v i) (hb : base ≤ w.heap.size) :
    Calls Try.prog 19 #[pt b, pt p] w (SnPost base w b g p c v k C L (.returned (i64 k.ph))) := by
  have qp : (k.ph != 0) = true := by simp [hp]
  have HS := Lib.hid (Does.refl (B := fun i => i = b ∨ i = g) hM ha hb)
  have HT := Lib.hid hT
  obtain ⟨c0, c1, c2, c3, c4, c5, c6, c7, c8, c9, c10⟩ := hT.at
  clear hT hM ha hp
  go_enter Try.func19, Try.ntmps19
  go_wp2
  go_ret
  exact ⟨rfl, _, HS.out, HT.out⟩

set_option maxHeartbeats 4000000 in
theorem snstep_0 (x y : Int) (j : Nat) (h4 : x = y ∧ k.read + 1 ≠ (k.N : Int)) (hp : k.ph = 0) (hk : k.Ok n C) (hj : (k.start + k.read) % (k.N : Int) = (j : Int)) (hx : C[j]? = some x) (hy : k.X[j]? = some y) (hT : IsSn base w b g k) (hM : IsMem base w p c v C L) (ha : ∀ i, (i = b ∨ i = g) → ¬ Foot p c v i) (hb : base ≤ w.heap.size) (hL : L.length < 1000000000) :
    Calls Try.prog 19 #[pt b, pt p] w (SnPost base w b g p c v ({ k with read := k.read + 1 }) C (L ++ [⟨k.who, 0, j, x, x, true⟩]) (.returned (i64 ({ k with read := k.read + 1 }).ph))) := by
  obtain ⟨hl, hN, hlen, hX, s0, s1, r0, r1, p0, p1⟩ := hk
  subst hN
  have hn1 := hl.n1; have hn2 := hl.n2; have ht1 := hl.t1
  have hjN : (j : Int) < (k.N : Int) := by rw [← hj]; exact Int.emod_lt_of_pos _ (by omega)
  have hn0 : ¬ k.N = 0 := by omega
  have hjt : (k.start + k.read).tmod (k.N : Int) = (j : Int) := by rw [Int.tmod_eq_emod_of_nonneg (by omega)]; exact hj
  have e1 : IntKind.i64.wrap (k.start + k.read) = k.start + k.read := IntWalk.i64_in _ (by omega)
  have e2 : wrap64 (k.read + 1) = k.read + 1 := by unfold wrap64; omega
  have qp : (k.ph != 0) = false := by simp [hp]
  have HS := Lib.hid (Does.refl (B := fun i => i = b ∨ i = g) hM ha hb)
  have HX := Lib.hid hx
  have HY := Lib.hid hy
  have hA : AtSn w.drew b g k := hT.drew.at
  have HT := Lib.hid hT
  have qx : (x != y) = false := by simp [h4.1]
  have qr : (k.read + 1 == (k.N : Int)) = false := by simp [h4.2]
  clear h4
  have HEND := Lib.hid (fun W (k1 : Sn) (h1 : k1.passes = k.passes) (hW : IsSn base W b g k1) => snend_any base W b g k1 (by omega) (by omega) hW)
  obtain ⟨c0, c1, c2, c3, c4, c5, c6, c7, c8, c9, c10⟩ := hT.at
  clear hx hy hT hM ha hj hp hX hlen p0 p1
  go_enter Try.func19, Try.ntmps19
  go_wp2_with fail
  clear c0 c1 c2 c3 c4 c5 c6 c7 c8 c9 c10
  refine wp_region_seqS ((fun w' => AtSn w' b g k)) ((0, true) :: (1, true) :: (2, true) :: (3, true) :: (4, true) :: (5, true) :: (6, true) :: (7, true) :: (8, true) :: (9, true) :: (10, true) :: (11, true) :: (12, true) :: (13, true) :: (14, true) :: (15, true) :: []) (by kernel_rfl) (by kernel_rfl) (by kernel_rfl) (by decide) (fun _ _ _ _ _ h => h) (hA) ?_
  repeat (first | (refine seq_take (v := ?_) rfl ?_ ?_ ?_; rotate_left 1; rfl; (focus (intro wS hSw; obtain ⟨c0, c1, c2, c3, c4, c5, c6, c7, c8, c9, c10⟩ := hSw; go_simp; first | done | with_reducible rfl)); (try simp only [Act.put, List.setIfInBounds_toArray, List.set_cons_zero, List.set_cons_succ])) | (refine seq_skip rfl ?_ ?_; rfl; (try simp only [Act.put, List.setIfInBounds_toArray, List.set_cons_zero, List.set_cons_succ])))
  refine seq_done ?_
  replace HT := Lib.hid HT.out.drew
  replace HS := Lib.hid HS.out.drew
  clear hA
  (try rw [hjt])
  obtain ⟨c0, c1, c2, c3, c4, c5, c6, c7, c8, c9, c10⟩ := HT.out.at
  go_wp2_with fail
  clear c0 c1 c2 c3 c4 c5 c6 c7 c8 c9 c10
  refine wp_region_seqS ((fun w' => AtHead w' b k.t k.s k.so k.d k.who k.start)) ((0, true) :: (1, true) :: (2, true) :: (3, true) :: (4, true) :: (5, true) :: (6, true) :: (7, true) :: (8, true) :: (9, true) :: (10, false) :: (11, false) :: (12, true) :: []) (by kernel_rfl) (by kernel_rfl) (by kernel_rfl) (by decide) (fun _ _ _ _ _ h => h) (HT.out.drew.head) ?_
  repeat (first | (refine seq_take (v := ?_) rfl ?_ ?_ ?_; rotate_left 1; rfl; (focus (intro wS hSw; obtain ⟨c0, c1, c2, c3, c4, c5⟩ := hSw; go_simp; first | done | with_reducible rfl)); (try simp only [Act.put, List.setIfInBounds_toArray, List.set_cons_zero, List.set_cons_succ])) | (refine seq_skip rfl ?_ ?_; rfl; (try simp only [Act.put, List.setIfInBounds_toArray, List.set_cons_zero, List.set_cons_succ])))
  refine seq_run rfl (fun K hK => ?_)
  go_simp
  go_at_call 15
  refine (cword_any _ _ _ _ _ _).mono ?_
  rintro r w1 ⟨rfl, hb1⟩
  (try go_wp2_with fail)
  replace HT := Lib.hid (HT.out.drew.later hb1)
  replace HS := Lib.hid (HS.out.drew.later hb1)
  clear hb1
  refine hK.out _ _ (HT.out.head) (fun _ => ?_)
  (try simp only [Act.put, List.setIfInBounds_toArray, List.set_cons_zero, List.set_cons_succ])
  clear hK K
  repeat (first | (refine seq_take (v := ?_) rfl ?_ ?_ ?_; rotate_left 1; rfl; (focus (intro wS hSw; obtain ⟨c0, c1, c2, c3, c4, c5⟩ := hSw; go_simp; first | done | with_reducible rfl)); (try simp only [Act.put, List.setIfInBounds_toArray, List.set_cons_zero, List.set_cons_succ])) | (refine seq_skip rfl ?_ ?_; rfl; (try simp only [Act.put, List.setIfInBounds_toArray, List.set_cons_zero, List.set_cons_succ])))
  refine seq_run rfl (fun K hK => ?_)
  go_simp
  go_at_call 43
  refine (load_in base _ p c _ _ _ k.who j x HS.out.mem HX.out HS.out.size hL).mono ?_
  rintro r w2 ⟨rfl, v2, hT2⟩
  (try go_wp2_with fail)
  have hlt1 := HT.out.obj.lt
  have hlt2 := HT.out.gb.2
  replace HT := Lib.hid (HT.out.keep hT2.keep (HS.out.apart b (.inl rfl)) (HS.out.apart g (.inr rfl)))
  replace HS := Lib.hid (HS.out.cells (fun i hi => hi.elim (fun e => e ▸ hlt1) (fun e => e ▸ hlt2)) hT2)
  clear hT2 hlt1 hlt2
  refine hK.out _ _ (HT.out.head) (fun _ => ?_)
  (try simp only [Act.put, List.setIfInBounds_toArray, List.set_cons_zero, List.set_cons_succ])
  clear hK K
  repeat (first | (refine seq_take (v := ?_) rfl ?_ ?_ ?_; rotate_left 1; rfl; (focus (intro wS hSw; obtain ⟨c0, c1, c2, c3, c4, c5⟩ := hSw; go_simp; first | done | with_reducible rfl)); (try simp only [Act.put, List.setIfInBounds_toArray, List.set_cons_zero, List.set_cons_succ])) | (refine seq_skip rfl ?_ ?_; rfl; (try simp only [Act.put, List.setIfInBounds_toArray, List.set_cons_zero, List.set_cons_succ])))
  refine seq_done ?_
  obtain ⟨c0, c1, c2, c3, c4, c5, c6, c7, c8, c9, c10⟩ := HT.out.at
  have cx := HT.out.cell HY.out
  have fx := HT.out.row.frozenAt j
  have f6 := HT.out.obj.fz 6
  have f8 := HT.out.obj.fz 8
  have hne := HT.out.ne
  go_wp2_with fail
  have HT3 := Lib.hid (HT.out.set 6 (.int .i64 (k.read + 1)) (k' := { k with read := k.read + 1 }) rfl rfl rfl)
  have HS3 := Lib.hid (HS.out.own ((Keep.refl (fun i => i = b ∨ i = g) _).setCell ⟨b, 6, none⟩ (.inl rfl) (.int .i64 (k.read + 1))))
  clear c0 c1 c2 c3 c4 c5 c6 c7 c8 c9 c10 cx fx f6 f8
  refine wp_region_seqS ((fun w' => AtSn w' b g { k with read := k.read + 1 })) ((0, true) :: (1, true) :: (2, true) :: (3, true) :: (4, true) :: (5, true) :: (6, true) :: (7, true) :: (8, true) :: (9, true) :: []) (by kernel_rfl) (by kernel_rfl) (by kernel_rfl) (by decide) (fun _ _ _ _ _ h => h) (HT3.out.drew.at) ?_
  repeat (first | (refine seq_take (v := ?_) rfl ?_ ?_ ?_; rotate_left 1; rfl; (focus (intro wS hSw; obtain ⟨d0, d1, d2, d3, d4, d5, d6, d7, d8, d9, d10⟩ := hSw; go_simp; first | done | with_reducible rfl)); (try simp only [Act.put, List.setIfInBounds_toArray, List.set_cons_zero, List.set_cons_succ])) | (refine seq_skip rfl ?_ ?_; rfl; (try simp only [Act.put, List.setIfInBounds_toArray, List.set_cons_zero, List.set_cons_succ])))
  refine seq_done ?_
  replace HT3 := Lib.hid HT3.out.drew
  replace HS3 := Lib.hid HS3.out.drew
  obtain ⟨c0, c1, c2, c3, c4, c5, c6, c7, c8, c9, c10⟩ := HT3.out.at
  go_wp2
  go_ret
  exact ⟨rfl, _, HS3.out, HT3.out⟩

set_option maxHeartbeats 4000000 in
theorem snstep_1 (x y : Int) (j : Nat) (h4 : x ≠ y ∧ k.read + 1 ≠ (k.N : Int)) (hp : k.ph = 0) (hk : k.Ok n C) (hj : (k.start + k.read) % (k.N : Int) = (j : Int)) (hx : C[j]? = some x) (hy : k.X[j]? = some y) (hT : IsSn base w b g k) (hM : IsMem base w p c v C L) (ha : ∀ i, (i = b ∨ i = g) → ¬ Foot p c v i) (hb : base ≤ w.heap.size) (hL : L.length < 1000000000) :
    Calls Try.prog 19 #[pt b, pt p] w (SnPost base w b g p c v ({ k with X := k.X.set j x, turned := true, read := k.read + 1 }) C (L ++ [⟨k.who, 0, j, x, x, true⟩]) (.returned (i64 ({ k with X := k.X.set j x, turned := true, read := k.read + 1 }).ph))) := by
  obtain ⟨hl, hN, hlen, hX, s0, s1, r0, r1, p0, p1⟩ := hk
  subst hN
  have hn1 := hl.n1; have hn2 := hl.n2; have ht1 := hl.t1
  have hjN : (j : Int) < (k.N : Int) := by rw [← hj]; exact Int.emod_lt_of_pos _ (by omega)
  have hn0 : ¬ k.N = 0 := by omega
  have hjt : (k.start + k.read).tmod (k.N : Int) = (j : Int) := by rw [Int.tmod_eq_emod_of_nonneg (by omega)]; exact hj
  have e1 : IntKind.i64.wrap (k.start + k.read) = k.start + k.read := IntWalk.i64_in _ (by omega)
  have e2 : wrap64 (k.read + 1) = k.read + 1 := by unfold wrap64; omega
  have qp : (k.ph != 0) = false := by simp [hp]
  have HS := Lib.hid (Does.refl (B := fun i => i = b ∨ i = g) hM ha hb)
  have HX := Lib.hid hx
  have HY := Lib.hid hy
  have hA : AtSn w.drew b g k := hT.drew.at
  have HT := Lib.hid hT
  have qx : (x != y) = true := by simp [h4.1]
  have qr : (k.read + 1 == (k.N : Int)) = false := by simp [h4.2]
  clear h4
  have HEND := Lib.hid (fun W (k1 : Sn) (h1 : k1.passes = k.passes) (hW : IsSn base W b g k1) => snend_any base W b g k1 (by omega) (by omega) hW)
  obtain ⟨c0, c1, c2, c3, c4, c5, c6, c7, c8, c9, c10⟩ := hT.at
  clear hx hy hT hM ha hj hp hX hlen p0 p1
  go_enter Try.func19, Try.ntmps19
  go_wp2_with fail
  clear c0 c1 c2 c3 c4 c5 c6 c7 c8 c9 c10
  refine wp_region_seqS ((fun w' => AtSn w' b g k)) ((0, true) :: (1, true) :: (2, true) :: (3, true) :: (4, true) :: (5, true) :: (6, true) :: (7, true) :: (8, true) :: (9, true) :: (10, true) :: (11, true) :: (12, true) :: (13, true) :: (14, true) :: (15, true) :: []) (by kernel_rfl) (by kernel_rfl) (by kernel_rfl) (by decide) (fun _ _ _ _ _ h => h) (hA) ?_
  repeat (first | (refine seq_take (v := ?_) rfl ?_ ?_ ?_; rotate_left 1; rfl; (focus (intro wS hSw; obtain ⟨c0, c1, c2, c3, c4, c5, c6, c7, c8, c9, c10⟩ := hSw; go_simp; first | done | with_reducible rfl)); (try simp only [Act.put, List.setIfInBounds_toArray, List.set_cons_zero, List.set_cons_succ])) | (refine seq_skip rfl ?_ ?_; rfl; (try simp only [Act.put, List.setIfInBounds_toArray, List.set_cons_zero, List.set_cons_succ])))
  refine seq_done ?_
  replace HT := Lib.hid HT.out.drew
  replace HS := Lib.hid HS.out.drew
  clear hA
  (try rw [hjt])
  obtain ⟨c0, c1, c2, c3, c4, c5, c6, c7, c8, c9, c10⟩ := HT.out.at
  go_wp2_with fail
  clear c0 c1 c2 c3 c4 c5 c6 c7 c8 c9 c10
  refine wp_region_seqS ((fun w' => AtHead w' b k.t k.s k.so k.d k.who k.start)) ((0, true) :: (1, true) :: (2, true) :: (3, true) :: (4, true) :: (5, true) :: (6, true) :: (7, true) :: (8, true) :: (9, true) :: (10, false) :: (11, false) :: (12, true) :: []) (by kernel_rfl) (by kernel_rfl) (by kernel_rfl) (by decide) (fun _ _ _ _ _ h => h) (HT.out.drew.head) ?_
  repeat (first | (refine seq_take (v := ?_) rfl ?_ ?_ ?_; rotate_left 1; rfl; (focus (intro wS hSw; obtain ⟨c0, c1, c2, c3, c4, c5⟩ := hSw; go_simp; first | done | with_reducible rfl)); (try simp only [Act.put, List.setIfInBounds_toArray, List.set_cons_zero, List.set_cons_succ])) | (refine seq_skip rfl ?_ ?_; rfl; (try simp only [Act.put, List.setIfInBounds_toArray, List.set_cons_zero, List.set_cons_succ])))
  refine seq_run rfl (fun K hK => ?_)
  go_simp
  go_at_call 15
  refine (cword_any _ _ _ _ _ _).mono ?_
  rintro r w1 ⟨rfl, hb1⟩
  (try go_wp2_with fail)
  replace HT := Lib.hid (HT.out.drew.later hb1)
  replace HS := Lib.hid (HS.out.drew.later hb1)
  clear hb1
  refine hK.out _ _ (HT.out.head) (fun _ => ?_)
  (try simp only [Act.put, List.setIfInBounds_toArray, List.set_cons_zero, List.set_cons_succ])
  clear hK K
  repeat (first | (refine seq_take (v := ?_) rfl ?_ ?_ ?_; rotate_left 1; rfl; (focus (intro wS hSw; obtain ⟨c0, c1, c2, c3, c4, c5⟩ := hSw; go_simp; first | done | with_reducible rfl)); (try simp only [Act.put, List.setIfInBounds_toArray, List.set_cons_zero, List.set_cons_succ])) | (refine seq_skip rfl ?_ ?_; rfl; (try simp only [Act.put, List.setIfInBounds_toArray, List.set_cons_zero, List.set_cons_succ])))
  refine seq_run rfl (fun K hK => ?_)
  go_simp
  go_at_call 43
  refine (load_in base _ p c _ _ _ k.who j x HS.out.mem HX.out HS.out.size hL).mono ?_
  rintro r w2 ⟨rfl, v2, hT2⟩
  (try go_wp2_with fail)
  have hlt1 := HT.out.obj.lt
  have hlt2 := HT.out.gb.2
  replace HT := Lib.hid (HT.out.keep hT2.keep (HS.out.apart b (.inl rfl)) (HS.out.apart g (.inr rfl)))
  replace HS := Lib.hid (HS.out.cells (fun i hi => hi.elim (fun e => e ▸ hlt1) (fun e => e ▸ hlt2)) hT2)
  clear hT2 hlt1 hlt2
  refine hK.out _ _ (HT.out.head) (fun _ => ?_)
  (try simp only [Act.put, List.setIfInBounds_toArray, List.set_cons_zero, List.set_cons_succ])
  clear hK K
  repeat (first | (refine seq_take (v := ?_) rfl ?_ ?_ ?_; rotate_left 1; rfl; (focus (intro wS hSw; obtain ⟨c0, c1, c2, c3, c4, c5⟩ := hSw; go_simp; first | done | with_reducible rfl)); (try simp only [Act.put, List.setIfInBounds_toArray, List.set_cons_zero, List.set_cons_succ])) | (refine seq_skip rfl ?_ ?_; rfl; (try simp only [Act.put, List.setIfInBounds_toArray, List.set_cons_zero, List.set_cons_succ])))
  refine seq_done ?_
  obtain ⟨c0, c1, c2, c3, c4, c5, c6, c7, c8, c9, c10⟩ := HT.out.at
  have cx := HT.out.cell HY.out
  have fx := HT.out.row.frozenAt j
  have f6 := HT.out.obj.fz 6
  have f8 := HT.out.obj.fz 8
  have hne := HT.out.ne
  go_wp2_with fail
  have HT3 := Lib.hid (((HT.out.word j x).set 8 (.bool true) (k' := { k with X := k.X.set j x, turned := true }) rfl rfl rfl).set 6 (.int .i64 (k.read + 1)) (k' := { k with X := k.X.set j x, turned := true, read := k.read + 1 }) rfl rfl rfl)
  have HS3 := Lib.hid (HS.out.own ((((Keep.refl (fun i => i = b ∨ i = g) _).setCell ⟨g, j, none⟩ (.inr rfl) (u64 x)).setCell ⟨b, 8, none⟩ (.inl rfl) (.bool true)).setCell ⟨b, 6, none⟩ (.inl rfl) (.int .i64 (k.read + 1))))
  clear c0 c1 c2 c3 c4 c5 c6 c7 c8 c9 c10 cx fx f6 f8
  refine wp_region_seqS ((fun w' => AtSn w' b g { k with X := k.X.set j x, turned := true, read := k.read + 1 })) ((0, true) :: (1, true) :: (2, true) :: (3, true) :: (4, true) :: (5, true) :: (6, true) :: (7, true) :: (8, true) :: (9, true) :: []) (by kernel_rfl) (by kernel_rfl) (by kernel_rfl) (by decide) (fun _ _ _ _ _ h => h) (HT3.out.drew.at) ?_
  repeat (first | (refine seq_take (v := ?_) rfl ?_ ?_ ?_; rotate_left 1; rfl; (focus (intro wS hSw; obtain ⟨d0, d1, d2, d3, d4, d5, d6, d7, d8, d9, d10⟩ := hSw; go_simp; first | done | with_reducible rfl)); (try simp only [Act.put, List.setIfInBounds_toArray, List.set_cons_zero, List.set_cons_succ])) | (refine seq_skip rfl ?_ ?_; rfl; (try simp only [Act.put, List.setIfInBounds_toArray, List.set_cons_zero, List.set_cons_succ])))
  refine seq_done ?_
  replace HT3 := Lib.hid HT3.out.drew
  replace HS3 := Lib.hid HS3.out.drew
  obtain ⟨c0, c1, c2, c3, c4, c5, c6, c7, c8, c9, c10⟩ := HT3.out.at
  go_wp2
  go_ret
  exact ⟨rfl, _, HS3.out, HT3.out⟩

set_option maxHeartbeats 4000000 in
theorem snstep_2 (x y : Int) (j : Nat) (h4 : x = y ∧ k.read + 1 = (k.N : Int)) (hp : k.ph = 0) (hk : k.Ok n C) (hj : (k.start + k.read) % (k.N : Int) = (j : Int)) (hx : C[j]? = some x) (hy : k.X[j]? = some y) (hT : IsSn base w b g k) (hM : IsMem base w p c v C L) (ha : ∀ i, (i = b ∨ i = g) → ¬ Foot p c v i) (hb : base ≤ w.heap.size) (hL : L.length < 1000000000) :
    Calls Try.prog 19 #[pt b, pt p] w (SnPost base w b g p c v (Sn.fin { k with read := k.read + 1 }) C (L ++ [⟨k.who, 0, j, x, x, true⟩]) (.returned (i64 (Sn.fin { k with read := k.read + 1 }).ph))) := by
  obtain ⟨hl, hN, hlen, hX, s0, s1, r0, r1, p0, p1⟩ := hk
  subst hN
  have hn1 := hl.n1; have hn2 := hl.n2; have ht1 := hl.t1
  have hjN : (j : Int) < (k.N : Int) := by rw [← hj]; exact Int.emod_lt_of_pos _ (by omega)
  have hn0 : ¬ k.N = 0 := by omega
  have hjt : (k.start + k.read).tmod (k.N : Int) = (j : Int) := by rw [Int.tmod_eq_emod_of_nonneg (by omega)]; exact hj
  have e1 : IntKind.i64.wrap (k.start + k.read) = k.start + k.read := IntWalk.i64_in _ (by omega)
  have e2 : wrap64 (k.read + 1) = k.read + 1 := by unfold wrap64; omega
  have qp : (k.ph != 0) = false := by simp [hp]
  have HS := Lib.hid (Does.refl (B := fun i => i = b ∨ i = g) hM ha hb)
  have HX := Lib.hid hx
  have HY := Lib.hid hy
  have hA : AtSn w.drew b g k := hT.drew.at
  have HT := Lib.hid hT
  have qx : (x != y) = false := by simp [h4.1]
  have qr : (k.read + 1 == (k.N : Int)) = true := by simp [h4.2]
  clear h4
  have HEND := Lib.hid (fun W (k1 : Sn) (h1 : k1.passes = k.passes) (hW : IsSn base W b g k1) => snend_any base W b g k1 (by omega) (by omega) hW)
  obtain ⟨c0, c1, c2, c3, c4, c5, c6, c7, c8, c9, c10⟩ := hT.at
  clear hx hy hT hM ha hj hp hX hlen p0 p1
  go_enter Try.func19, Try.ntmps19
  go_wp2_with fail
  clear c0 c1 c2 c3 c4 c5 c6 c7 c8 c9 c10
  refine wp_region_seqS ((fun w' => AtSn w' b g k)) ((0, true) :: (1, true) :: (2, true) :: (3, true) :: (4, true) :: (5, true) :: (6, true) :: (7, true) :: (8, true) :: (9, true) :: (10, true) :: (11, true) :: (12, true) :: (13, true) :: (14, true) :: (15, true) :: []) (by kernel_rfl) (by kernel_rfl) (by kernel_rfl) (by decide) (fun _ _ _ _ _ h => h) (hA) ?_
  repeat (first | (refine seq_take (v := ?_) rfl ?_ ?_ ?_; rotate_left 1; rfl; (focus (intro wS hSw; obtain ⟨c0, c1, c2, c3, c4, c5, c6, c7, c8, c9, c10⟩ := hSw; go_simp; first | done | with_reducible rfl)); (try simp only [Act.put, List.setIfInBounds_toArray, List.set_cons_zero, List.set_cons_succ])) | (refine seq_skip rfl ?_ ?_; rfl; (try simp only [Act.put, List.setIfInBounds_toArray, List.set_cons_zero, List.set_cons_succ])))
  refine seq_done ?_
  replace HT := Lib.hid HT.out.drew
  replace HS := Lib.hid HS.out.drew
  clear hA
  (try rw [hjt])
  obtain ⟨c0, c1, c2, c3, c4, c5, c6, c7, c8, c9, c10⟩ := HT.out.at
  go_wp2_with fail
  clear c0 c1 c2 c3 c4 c5 c6 c7 c8 c9 c10
  refine wp_region_seqS ((fun w' => AtHead w' b k.t k.s k.so k.d k.who k.start)) ((0, true) :: (1, true) :: (2, true) :: (3, true) :: (4, true) :: (5, true) :: (6, true) :: (7, true) :: (8, true) :: (9, true) :: (10, false) :: (11, false) :: (12, true) :: []) (by kernel_rfl) (by kernel_rfl) (by kernel_rfl) (by decide) (fun _ _ _ _ _ h => h) (HT.out.drew.head) ?_
  repeat (first | (refine seq_take (v := ?_) rfl ?_ ?_ ?_; rotate_left 1; rfl; (focus (intro wS hSw; obtain ⟨c0, c1, c2, c3, c4, c5⟩ := hSw; go_simp; first | done | with_reducible rfl)); (try simp only [Act.put, List.setIfInBounds_toArray, List.set_cons_zero, List.set_cons_succ])) | (refine seq_skip rfl ?_ ?_; rfl; (try simp only [Act.put, List.setIfInBounds_toArray, List.set_cons_zero, List.set_cons_succ])))
  refine seq_run rfl (fun K hK => ?_)
  go_simp
  go_at_call 15
  refine (cword_any _ _ _ _ _ _).mono ?_
  rintro r w1 ⟨rfl, hb1⟩
  (try go_wp2_with fail)
  replace HT := Lib.hid (HT.out.drew.later hb1)
  replace HS := Lib.hid (HS.out.drew.later hb1)
  clear hb1
  refine hK.out _ _ (HT.out.head) (fun _ => ?_)
  (try simp only [Act.put, List.setIfInBounds_toArray, List.set_cons_zero, List.set_cons_succ])
  clear hK K
  repeat (first | (refine seq_take (v := ?_) rfl ?_ ?_ ?_; rotate_left 1; rfl; (focus (intro wS hSw; obtain ⟨c0, c1, c2, c3, c4, c5⟩ := hSw; go_simp; first | done | with_reducible rfl)); (try simp only [Act.put, List.setIfInBounds_toArray, List.set_cons_zero, List.set_cons_succ])) | (refine seq_skip rfl ?_ ?_; rfl; (try simp only [Act.put, List.setIfInBounds_toArray, List.set_cons_zero, List.set_cons_succ])))
  refine seq_run rfl (fun K hK => ?_)
  go_simp
  go_at_call 43
  refine (load_in base _ p c _ _ _ k.who j x HS.out.mem HX.out HS.out.size hL).mono ?_
  rintro r w2 ⟨rfl, v2, hT2⟩
  (try go_wp2_with fail)
  have hlt1 := HT.out.obj.lt
  have hlt2 := HT.out.gb.2
  replace HT := Lib.hid (HT.out.keep hT2.keep (HS.out.apart b (.inl rfl)) (HS.out.apart g (.inr rfl)))
  replace HS := Lib.hid (HS.out.cells (fun i hi => hi.elim (fun e => e ▸ hlt1) (fun e => e ▸ hlt2)) hT2)
  clear hT2 hlt1 hlt2
  refine hK.out _ _ (HT.out.head) (fun _ => ?_)
  (try simp only [Act.put, List.setIfInBounds_toArray, List.set_cons_zero, List.set_cons_succ])
  clear hK K
  repeat (first | (refine seq_take (v := ?_) rfl ?_ ?_ ?_; rotate_left 1; rfl; (focus (intro wS hSw; obtain ⟨c0, c1, c2, c3, c4, c5⟩ := hSw; go_simp; first | done | with_reducible rfl)); (try simp only [Act.put, List.setIfInBounds_toArray, List.set_cons_zero, List.set_cons_succ])) | (refine seq_skip rfl ?_ ?_; rfl; (try simp only [Act.put, List.setIfInBounds_toArray, List.set_cons_zero, List.set_cons_succ])))
  refine seq_done ?_
  obtain ⟨c0, c1, c2, c3, c4, c5, c6, c7, c8, c9, c10⟩ := HT.out.at
  have cx := HT.out.cell HY.out
  have fx := HT.out.row.frozenAt j
  have f6 := HT.out.obj.fz 6
  have f8 := HT.out.obj.fz 8
  have hne := HT.out.ne
  go_wp2_with fail
  have HT3 := Lib.hid (HT.out.set 6 (.int .i64 (k.read + 1)) (k' := { k with read := k.read + 1 }) rfl rfl rfl)
  have HS3 := Lib.hid (HS.out.own ((Keep.refl (fun i => i = b ∨ i = g) _).setCell ⟨b, 6, none⟩ (.inl rfl) (.int .i64 (k.read + 1))))
  clear c0 c1 c2 c3 c4 c5 c6 c7 c8 c9 c10 cx fx f6 f8
  refine wp_region_seqS ((fun w' => AtSn w' b g { k with read := k.read + 1 })) ((0, true) :: (1, true) :: (2, true) :: (3, true) :: (4, true) :: (5, true) :: (6, true) :: (7, true) :: (8, true) :: (9, true) :: []) (by kernel_rfl) (by kernel_rfl) (by kernel_rfl) (by decide) (fun _ _ _ _ _ h => h) (HT3.out.drew.at) ?_
  repeat (first | (refine seq_take (v := ?_) rfl ?_ ?_ ?_; rotate_left 1; rfl; (focus (intro wS hSw; obtain ⟨d0, d1, d2, d3, d4, d5, d6, d7, d8, d9, d10⟩ := hSw; go_simp; first | done | with_reducible rfl)); (try simp only [Act.put, List.setIfInBounds_toArray, List.set_cons_zero, List.set_cons_succ])) | (refine seq_skip rfl ?_ ?_; rfl; (try simp only [Act.put, List.setIfInBounds_toArray, List.set_cons_zero, List.set_cons_succ])))
  refine seq_done ?_
  replace HT3 := Lib.hid HT3.out.drew
  replace HS3 := Lib.hid HS3.out.drew
  go_wp2_with fail
  refine (HEND.out _ { k with read := k.read + 1 } rfl HT3.out).mono ?_
  rintro r w5 ⟨rfl, hT5, hK5⟩
  have HS5 := Lib.hid (HS3.out.own (hK5.mono fun i h => .inl h))
  have HT5 := Lib.hid hT5
  clear hT5 hK5
  obtain ⟨c0, c1, c2, c3, c4, c5, c6, c7, c8, c9, c10⟩ := HT5.out.at
  go_wp2
  go_ret
  exact ⟨rfl, _, HS5.out, HT5.out⟩

set_option maxHeartbeats 4000000 in
theorem snstep_3 (x y : Int) (j : Nat) (h4 : x ≠ y ∧ k.read + 1 = (k.N : Int)) (hp : k.ph = 0) (hk : k.Ok n C) (hj : (k.start + k.read) % (k.N : Int) = (j : Int)) (hx : C[j]? = some x) (hy : k.X[j]? = some y) (hT : IsSn base w b g k) (hM : IsMem base w p c v C L) (ha : ∀ i, (i = b ∨ i = g) → ¬ Foot p c v i) (hb : base ≤ w.heap.size) (hL : L.length < 1000000000) :
    Calls Try.prog 19 #[pt b, pt p] w (SnPost base w b g p c v (Sn.fin { k with X := k.X.set j x, turned := true, read := k.read + 1 }) C (L ++ [⟨k.who, 0, j, x, x, true⟩]) (.returned (i64 (Sn.fin { k with X := k.X.set j x, turned := true, read := k.read + 1 }).ph))) := by
  obtain ⟨hl, hN, hlen, hX, s0, s1, r0, r1, p0, p1⟩ := hk
  subst hN
  have hn1 := hl.n1; have hn2 := hl.n2; have ht1 := hl.t1
  have hjN : (j : Int) < (k.N : Int) := by rw [← hj]; exact Int.emod_lt_of_pos _ (by omega)
  have hn0 : ¬ k.N = 0 := by omega
  have hjt : (k.start + k.read).tmod (k.N : Int) = (j : Int) := by rw [Int.tmod_eq_emod_of_nonneg (by omega)]; exact hj
  have e1 : IntKind.i64.wrap (k.start + k.read) = k.start + k.read := IntWalk.i64_in _ (by omega)
  have e2 : wrap64 (k.read + 1) = k.read + 1 := by unfold wrap64; omega
  have qp : (k.ph != 0) = false := by simp [hp]
  have HS := Lib.hid (Does.refl (B := fun i => i = b ∨ i = g) hM ha hb)
  have HX := Lib.hid hx
  have HY := Lib.hid hy
  have hA : AtSn w.drew b g k := hT.drew.at
  have HT := Lib.hid hT
  have qx : (x != y) = true := by simp [h4.1]
  have qr : (k.read + 1 == (k.N : Int)) = true := by simp [h4.2]
  clear h4
  have HEND := Lib.hid (fun W (k1 : Sn) (h1 : k1.passes = k.passes) (hW : IsSn base W b g k1) => snend_any base W b g k1 (by omega) (by omega) hW)
  obtain ⟨c0, c1, c2, c3, c4, c5, c6, c7, c8, c9, c10⟩ := hT.at
  clear hx hy hT hM ha hj hp hX hlen p0 p1
  go_enter Try.func19, Try.ntmps19
  go_wp2_with fail
  clear c0 c1 c2 c3 c4 c5 c6 c7 c8 c9 c10
  refine wp_region_seqS ((fun w' => AtSn w' b g k)) ((0, true) :: (1, true) :: (2, true) :: (3, true) :: (4, true) :: (5, true) :: (6, true) :: (7, true) :: (8, true) :: (9, true) :: (10, true) :: (11, true) :: (12, true) :: (13, true) :: (14, true) :: (15, true) :: []) (by kernel_rfl) (by kernel_rfl) (by kernel_rfl) (by decide) (fun _ _ _ _ _ h => h) (hA) ?_
  repeat (first | (refine seq_take (v := ?_) rfl ?_ ?_ ?_; rotate_left 1; rfl; (focus (intro wS hSw; obtain ⟨c0, c1, c2, c3, c4, c5, c6, c7, c8, c9, c10⟩ := hSw; go_simp; first | done | with_reducible rfl)); (try simp only [Act.put, List.setIfInBounds_toArray, List.set_cons_zero, List.set_cons_succ])) | (refine seq_skip rfl ?_ ?_; rfl; (try simp only [Act.put, List.setIfInBounds_toArray, List.set_cons_zero, List.set_cons_succ])))
  refine seq_done ?_
  replace HT := Lib.hid HT.out.drew
  replace HS := Lib.hid HS.out.drew
  clear hA
  (try rw [hjt])
  obtain ⟨c0, c1, c2, c3, c4, c5, c6, c7, c8, c9, c10⟩ := HT.out.at
  go_wp2_with fail
  clear c0 c1 c2 c3 c4 c5 c6 c7 c8 c9 c10
  refine wp_region_seqS ((fun w' => AtHead w' b k.t k.s k.so k.d k.who k.start)) ((0, true) :: (1, true) :: (2, true) :: (3, true) :: (4, true) :: (5, true) :: (6, true) :: (7, true) :: (8, true) :: (9, true) :: (10, false) :: (11, false) :: (12, true) :: []) (by kernel_rfl) (by kernel_rfl) (by kernel_rfl) (by decide) (fun _ _ _ _ _ h => h) (HT.out.drew.head) ?_
  repeat (first | (refine seq_take (v := ?_) rfl ?_ ?_ ?_; rotate_left 1; rfl; (focus (intro wS hSw; obtain ⟨c0, c1, c2, c3, c4, c5⟩ := hSw; go_simp; first | done | with_reducible rfl)); (try simp only [Act.put, List.setIfInBounds_toArray, List.set_cons_zero, List.set_cons_succ])) | (refine seq_skip rfl ?_ ?_; rfl; (try simp only [Act.put, List.setIfInBounds_toArray, List.set_cons_zero, List.set_cons_succ])))
  refine seq_run rfl (fun K hK => ?_)
  go_simp
  go_at_call 15
  refine (cword_any _ _ _ _ _ _).mono ?_
  rintro r w1 ⟨rfl, hb1⟩
  (try go_wp2_with fail)
  replace HT := Lib.hid (HT.out.drew.later hb1)
  replace HS := Lib.hid (HS.out.drew.later hb1)
  clear hb1
  refine hK.out _ _ (HT.out.head) (fun _ => ?_)
  (try simp only [Act.put, List.setIfInBounds_toArray, List.set_cons_zero, List.set_cons_succ])
  clear hK K
  repeat (first | (refine seq_take (v := ?_) rfl ?_ ?_ ?_; rotate_left 1; rfl; (focus (intro wS hSw; obtain ⟨c0, c1, c2, c3, c4, c5⟩ := hSw; go_simp; first | done | with_reducible rfl)); (try simp only [Act.put, List.setIfInBounds_toArray, List.set_cons_zero, List.set_cons_succ])) | (refine seq_skip rfl ?_ ?_; rfl; (try simp only [Act.put, List.setIfInBounds_toArray, List.set_cons_zero, List.set_cons_succ])))
  refine seq_run rfl (fun K hK => ?_)
  go_simp
  go_at_call 43
  refine (load_in base _ p c _ _ _ k.who j x HS.out.mem HX.out HS.out.size hL).mono ?_
  rintro r w2 ⟨rfl, v2, hT2⟩
  (try go_wp2_with fail)
  have hlt1 := HT.out.obj.lt
  have hlt2 := HT.out.gb.2
  replace HT := Lib.hid (HT.out.keep hT2.keep (HS.out.apart b (.inl rfl)) (HS.out.apart g (.inr rfl)))
  replace HS := Lib.hid (HS.out.cells (fun i hi => hi.elim (fun e => e ▸ hlt1) (fun e => e ▸ hlt2)) hT2)
  clear hT2 hlt1 hlt2
  refine hK.out _ _ (HT.out.head) (fun _ => ?_)
  (try simp only [Act.put, List.setIfInBounds_toArray, List.set_cons_zero, List.set_cons_succ])
  clear hK K
  repeat (first | (refine seq_take (v := ?_) rfl ?_ ?_ ?_; rotate_left 1; rfl; (focus (intro wS hSw; obtain ⟨c0, c1, c2, c3, c4, c5⟩ := hSw; go_simp; first | done | with_reducible rfl)); (try simp only [Act.put, List.setIfInBounds_toArray, List.set_cons_zero, List.set_cons_succ])) | (refine seq_skip rfl ?_ ?_; rfl; (try simp only [Act.put, List.setIfInBounds_toArray, List.set_cons_zero, List.set_cons_succ])))
  refine seq_done ?_
  obtain ⟨c0, c1, c2, c3, c4, c5, c6, c7, c8, c9, c10⟩ := HT.out.at
  have cx := HT.out.cell HY.out
  have fx := HT.out.row.frozenAt j
  have f6 := HT.out.obj.fz 6
  have f8 := HT.out.obj.fz 8
  have hne := HT.out.ne
  go_wp2_with fail
  have HT3 := Lib.hid (((HT.out.word j x).set 8 (.bool true) (k' := { k with X := k.X.set j x, turned := true }) rfl rfl rfl).set 6 (.int .i64 (k.read + 1)) (k' := { k with X := k.X.set j x, turned := true, read := k.read + 1 }) rfl rfl rfl)
  have HS3 := Lib.hid (HS.out.own ((((Keep.refl (fun i => i = b ∨ i = g) _).setCell ⟨g, j, none⟩ (.inr rfl) (u64 x)).setCell ⟨b, 8, none⟩ (.inl rfl) (.bool true)).setCell ⟨b, 6, none⟩ (.inl rfl) (.int .i64 (k.read + 1))))
  clear c0 c1 c2 c3 c4 c5 c6 c7 c8 c9 c10 cx fx f6 f8
  refine wp_region_seqS ((fun w' => AtSn w' b g { k with X := k.X.set j x, turned := true, read := k.read + 1 })) ((0, true) :: (1, true) :: (2, true) :: (3, true) :: (4, true) :: (5, true) :: (6, true) :: (7, true) :: (8, true) :: (9, true) :: []) (by kernel_rfl) (by kernel_rfl) (by kernel_rfl) (by decide) (fun _ _ _ _ _ h => h) (HT3.out.drew.at) ?_
  repeat (first | (refine seq_take (v := ?_) rfl ?_ ?_ ?_; rotate_left 1; rfl; (focus (intro wS hSw; obtain ⟨d0, d1, d2, d3, d4, d5, d6, d7, d8, d9, d10⟩ := hSw; go_simp; first | done | with_reducible rfl)); (try simp only [Act.put, List.setIfInBounds_toArray, List.set_cons_zero, List.set_cons_succ])) | (refine seq_skip rfl ?_ ?_; rfl; (try simp only [Act.put, List.setIfInBounds_toArray, List.set_cons_zero, List.set_cons_succ])))
  refine seq_done ?_
  replace HT3 := Lib.hid HT3.out.drew
  replace HS3 := Lib.hid HS3.out.drew
  go_wp2_with fail
  refine (HEND.out _ { k with X := k.X.set j x, turned := true, read := k.read + 1 } rfl HT3.out).mono ?_
  rintro r w5 ⟨rfl, hT5, hK5⟩
  have HS5 := Lib.hid (HS3.out.own (hK5.mono fun i h => .inl h))
  have HT5 := Lib.hid hT5
  clear hT5 hK5
  obtain ⟨c0, c1, c2, c3, c4, c5, c6, c7, c8, c9, c10⟩ := HT5.out.at
  go_wp2
  go_ret
  exact ⟨rfl, _, HS5.out, HT5.out⟩

/-- A step does what 'Sn.step' says. -/
theorem snstep_any (hk : k.Ok n C) (hT : IsSn base w b g k) (hM : IsMem base w p c v C L) (ha : ∀ i, (i = b ∨ i = g) → ¬ Foot p c v i) (hb : base ≤ w.heap.size) (hL : L.length < 1000000000) :
    Calls Try.prog 19 #[pt b, pt p] w (SnPost base w b g p c v (k.step C) C (L ++ k.ev C) (.returned (i64 (k.step C).ph))) := by
  have hn1 := hk.lay.n1; have hn2 := hk.lay.n2; have ht1 := hk.lay.t1
  have hN := hk.N; have hlen := hk.len; have hX := hk.X
  unfold Sn.step Sn.ev
  by_cases hp : k.ph = 0
  · rw [if_pos hp, if_pos hp]
    have hm0 := Int.emod_nonneg (k.start + k.read) (show (k.N : Int) ≠ 0 by omega)
    have hm1 := Int.emod_lt_of_pos (k.start + k.read) (show (0 : Int) < (k.N : Int) by omega)
    have hj : (k.start + k.read) % (k.N : Int) = (k.slot : Int) := by unfold Sn.slot; omega
    have hjN : k.slot < k.N := by omega
    have hx : C[k.slot]? = some (C.getD k.slot 0) := getD_at (by omega)
    have hy : k.X[k.slot]? = some (k.X.getD k.slot 0) := getD_at (by omega)
    generalize hxx : C.getD k.slot 0 = x at hx ⊢
    generalize hyy : k.X.getD k.slot 0 = y at hy
    have hput : k.put x = if x = y then { k with read := k.read + 1 } else { k with X := k.X.set k.slot x, turned := true, read := k.read + 1 } := by
      unfold Sn.put
      rw [hyy]
      by_cases he : x = y
      · rw [if_pos he, he, set_same hy]
        simp
      · rw [if_neg he]
        simp [he]
    by_cases he : x = y
    · rw [if_pos he] at hput
      rw [hput]
      by_cases hr : k.read + 1 = (k.N : Int)
      · rw [if_pos hr]
        exact snstep_2 base w b g p c v C L k n x y k.slot ⟨he, hr⟩ hp hk hj hx hy hT hM ha hb hL
      · rw [if_neg hr]
        exact snstep_0 base w b g p c v C L k n x y k.slot ⟨he, hr⟩ hp hk hj hx hy hT hM ha hb hL
    · rw [if_neg he] at hput
      rw [hput]
      by_cases hr : k.read + 1 = (k.N : Int)
      · rw [if_pos hr]
        exact snstep_3 base w b g p c v C L k n x y k.slot ⟨he, hr⟩ hp hk hj hx hy hT hM ha hb hL
      · rw [if_neg hr]
        exact snstep_1 base w b g p c v C L k n x y k.slot ⟨he, hr⟩ hp hk hj hx hy hT hM ha hb hL
  · rw [if_neg hp, if_neg hp, List.append_nil]
    exact snstep_rest base w b g p c v C L k hp hT hM ha hb
end

end Go.Proofs.Yticphioeipbnmaa
