/-
  Contracts of package take, stage by stage. No condition but that numbers fit their kinds, and that the place is one of the layout's.
-/
import Derived.Test.YticphioeipbnmaaClaimCalls
import Derived.Test.YticphioeipbnmaaWordMore
namespace Go.Proofs.Yticphioeipbnmaa
open Go.RowKit
set_option linter.unusedVariables false

theorem hazard_at (t s so d n i : Int) (j : Nat) (w : World) (h : Lay t s n) (i0 : 0 ≤ i) (i1 : i ≤ t) (hj : 2 * n + i = (j : Int)) :
    Calls Try.prog 35 #[cf t s so d, i64 i] w fun r w' => r = .returned (i64 j) ∧ Below w.heap.size w w' := by
  rw [← hj]
  exact chazard_any t s so d n i w h i0 i1
theorem value_at (t s so d n i : Int) (j : Nat) (w : World) (h : Lay t s n) (i0 : 0 ≤ i) (i1 : i ≤ n) (hj : n + i = (j : Int)) :
    Calls Try.prog 18 #[cf t s so d, i64 i] w fun r w' => r = .returned (i64 j) ∧ Below w.heap.size w w' := by
  rw [← hj]
  exact cvalue_any t s so d n i w h i0 i1
theorem word_at (t s so d i : Int) (j : Nat) (w : World) (hj : i = (j : Int)) :
    Calls Try.prog 15 #[cf t s so d, i64 i] w fun r w' => r = .returned (i64 j) ∧ Below w.heap.size w w' := by
  rw [← hj]
  exact cword_any t s so d i w

/-- What a live word is, taken. -/
def tkW (x : Int) : Int := 2 + 4 * (x / 4 % 2) + 8 * (x / 8 % 8192) + 65536 * (x / 65536 % 16777216) + 1099511627776 * (x / 1099511627776)

/-- The cells of a take. -/
abbrev taL (t s so d who slot word next value : Int) (lost : Bool) (ph : Int) : List Value := [i64 t, i64 s, i64 so, i64 d, i64 who, i64 slot, u64 word, i64 next, u64 value, .bool lost, i64 ph]
/-- The cells that are loaded and not stored meanwhile. -/
structure AtTa (w : World) (b : Nat) (t s so d who slot word : Int) : Prop where
  c0 : w.cell? ⟨b, 0, none⟩ = some (i64 t)
  c1 : w.cell? ⟨b, 1, none⟩ = some (i64 s)
  c2 : w.cell? ⟨b, 2, none⟩ = some (i64 so)
  c3 : w.cell? ⟨b, 3, none⟩ = some (i64 d)
  c4 : w.cell? ⟨b, 4, none⟩ = some (i64 who)
  c5 : w.cell? ⟨b, 5, none⟩ = some (i64 slot)
  c6 : w.cell? ⟨b, 6, none⟩ = some (u64 word)
theorem IsObj.ta {w : World} {b : Nat} {t s so d who slot word : Int} {l : List Value} (h : IsObj w b (i64 t :: i64 s :: i64 so :: i64 d :: i64 who :: i64 slot :: u64 word :: l)) : AtTa w b t s so d who slot word :=
  ⟨h.at' 0 _ rfl, h.at' 1 _ rfl, h.at' 2 _ rfl, h.at' 3 _ rfl, h.at' 4 _ rfl, h.at' 5 _ rfl, h.at' 6 _ rfl⟩

/-- What is known behind a step. -/
def TaPost (base : Nat) (w : World) (b p c : Nat) (v : Value) (l : List Value) (C' : List Int) (L' : List Ev) (e0 : Ending) (e : Ending) (w' : World) : Prop :=
  e = e0 ∧ ∃ v', Does (· = b) base w w' p c v v' C' L' ∧ IsObj w' b l

section
variable (base : Nat) (w : World) (b p c : Nat) (v : Value) (C : List Int) (L : List Ev) (t s so d who slot word value n : Int)

set_option maxRecDepth 100000 in
set_option maxHeartbeats 4000000 in
theorem take_0 (hz : Nat) (hhz : 2 * n + who = (hz : Int)) (y : Int) (hy : C[hz]? = some y) (hT : IsObj w b (taL t s so d who slot word 0 value false 0)) (hl : Lay t s n) (w0 : 0 ≤ who) (w1 : who < t) (s0 : 0 ≤ slot) (s1 : slot < n) (x0 : 0 ≤ word) (x1 : word ≤ 18446744073709551615) (hM : IsMem base w p c v C L) (ha : ¬ Foot p c v b) (hb : base ≤ w.heap.size) (hL : L.length < 1000000000) :
    Calls Try.prog 23 #[pt b, pt p] w (TaPost base w b p c v (taL t s so d who slot word 1 value false 0) (C.set hz (slot + 1)) (L ++ [⟨who, 1, hz, y, slot + 1, true⟩]) (.returned (i64 0))) := by
  have hn1 := hl.n1; have hn2 := hl.n2; have ht1 := hl.t1; have ht2 := hl.t2
  have HS := Lib.hid (Does.refl (B := (· = b)) hM (fun i hi => hi ▸ ha) hb)
  have hA : AtTa w.drew b t s so d who slot word := hT.drew.ta
  have HT := Lib.hid hT
  have HHZ := Lib.hid hhz
  have HY := Lib.hid hy
  have hu1 : IntKind.u64.wrap slot = slot := by rw [IntKind.wrap_u64]; omega
  have hu2 : IntKind.u64.wrap (slot + 1) = slot + 1 := by rw [IntKind.wrap_u64]; omega
  clear hhz hy
  clear hM ha
  have c0 := hT.at' 7 _ rfl
  have c1 := hT.at' 10 _ rfl
  have c2 := hT.at' 6 _ rfl
  clear hT
  go_enter Try.func23, Try.ntmps23
  go_wp2_with fail
  clear c0 c1
  replace HT := Lib.hid HT.out.drew
  replace HS := Lib.hid HS.out.drew
  clear c2
  refine wp_region_seqS ((fun w' => AtTa w' b t s so d who slot word)) ((0, true) :: (1, true) :: (2, true) :: (3, true) :: (4, true) :: (5, true) :: (6, true) :: (7, true) :: (8, true) :: (9, true) :: (10, true) :: (11, true) :: (12, true) :: (14, true) :: (15, true) :: (16, true) :: (17, true) :: (18, true) :: (19, true) :: (13, false) :: (20, false) :: []) (by kernel_rfl) (by kernel_rfl) (by kernel_rfl) (by decide) (fun _ _ _ _ _ h => h) (hA) ?_
  repeat (first | (refine seq_take (v := ?_) rfl ?_ ?_ ?_; rotate_left 1; rfl; (focus (intro wS hSw; obtain ⟨c0, c1, c2, c3, c4, c5, c6⟩ := hSw; go_simp; first | done | with_reducible rfl)); (try simp only [Act.put, List.setIfInBounds_toArray, List.set_cons_zero, List.set_cons_succ])) | (refine seq_skip rfl ?_ ?_; rfl; (try simp only [Act.put, List.setIfInBounds_toArray, List.set_cons_zero, List.set_cons_succ])))
  refine seq_run rfl (fun K hK => ?_)
  go_simp
  go_at_call 35
  refine (hazard_at _ _ _ _ n _ hz _ hl w0 (by omega) HHZ.out).mono ?_
  rintro r w1 ⟨rfl, hb1⟩
  (try go_wp2_with fail)
  replace HT := Lib.hid (HT.out.later hb1)
  replace HS := Lib.hid (HS.out.later hb1)
  clear hb1
  refine hK.out _ _ (HT.out.ta) (fun _ => ?_)
  (try simp only [Act.put, List.setIfInBounds_toArray, List.set_cons_zero, List.set_cons_succ])
  clear hK K
  repeat (first | (refine seq_take (v := ?_) rfl ?_ ?_ ?_; rotate_left 1; rfl; (focus (intro wS hSw; obtain ⟨c0, c1, c2, c3, c4, c5, c6⟩ := hSw; go_simp; first | done | with_reducible rfl)); (try simp only [Act.put, List.setIfInBounds_toArray, List.set_cons_zero, List.set_cons_succ])) | (refine seq_skip rfl ?_ ?_; rfl; (try simp only [Act.put, List.setIfInBounds_toArray, List.set_cons_zero, List.set_cons_succ])))
  refine seq_run rfl (fun K hK => ?_)
  go_simp
  go_at_call 14
  refine (store_in base _ p c _ _ _ who hz y (slot + 1) HS.out.mem HY.out HS.out.size hL (by omega) (by omega)).mono ?_
  rintro r w2 ⟨rfl, v2, hT2⟩
  (try go_wp2_with fail)
  have hlt1 := HT.out.lt
  replace HT := Lib.hid (HT.out.keep hT2.keep (HS.out.apart b rfl))
  replace HS := Lib.hid (HS.out.cells (fun i hi => hi ▸ hlt1) hT2)
  clear hT2 hlt1
  refine hK.out _ _ (HT.out.ta) (fun _ => ?_)
  (try simp only [Act.put, List.setIfInBounds_toArray, List.set_cons_zero, List.set_cons_succ])
  clear hK K
  repeat (first | (refine seq_take (v := ?_) rfl ?_ ?_ ?_; rotate_left 1; rfl; (focus (intro wS hSw; obtain ⟨c0, c1, c2, c3, c4, c5, c6⟩ := hSw; go_simp; first | done | with_reducible rfl)); (try simp only [Act.put, List.setIfInBounds_toArray, List.set_cons_zero, List.set_cons_succ])) | (refine seq_skip rfl ?_ ?_; rfl; (try simp only [Act.put, List.setIfInBounds_toArray, List.set_cons_zero, List.set_cons_succ])))
  refine seq_done ?_
  have c0 := HT.out.at' 0 _ rfl
  have c1 := HT.out.at' 1 _ rfl
  have c2 := HT.out.at' 2 _ rfl
  have c3 := HT.out.at' 3 _ rfl
  have c4 := HT.out.at' 4 _ rfl
  have c5 := HT.out.at' 5 _ rfl
  have c6 := HT.out.at' 6 _ rfl
  have c7 := HT.out.at' 7 _ rfl
  have c8 := HT.out.at' 8 _ rfl
  have c9 := HT.out.at' 9 _ rfl
  have c10 := HT.out.at' 10 _ rfl
  have f7 := HT.out.fz 7
  have f9 := HT.out.fz 9
  have f10 := HT.out.fz 10
  go_wp2_with fail
  refine bodyPost_ret (v := i64 0) (by simp [results, Try.results23, go_sem]) rfl ⟨rfl, _, HS.out.own ((Keep.refl _ _).own 7 _), (HT.out.set 7 (i64 1) : IsObj _ b (taL t s so d who slot word 1 value false 0))⟩

set_option maxRecDepth 100000 in
set_option maxHeartbeats 4000000 in
theorem take_1same (j : Nat) (hj : slot = (j : Int)) (y : Int) (hy : C[j]? = some y) (hyw : y = word) (hT : IsObj w b (taL t s so d who slot word 1 value false 0)) (hl : Lay t s n) (w0 : 0 ≤ who) (w1 : who < t) (s0 : 0 ≤ slot) (s1 : slot < n) (x0 : 0 ≤ word) (x1 : word ≤ 18446744073709551615) (hM : IsMem base w p c v C L) (ha : ¬ Foot p c v b) (hb : base ≤ w.heap.size) (hL : L.length < 1000000000) :
    Calls Try.prog 23 #[pt b, pt p] w (TaPost base w b p c v (taL t s so d who slot word 2 value false 0) C (L ++ [⟨who, 0, j, y, y, true⟩]) (.returned (i64 0))) := by
  have hn1 := hl.n1; have hn2 := hl.n2; have ht1 := hl.t1; have ht2 := hl.t2
  have HS := Lib.hid (Does.refl (B := (· = b)) hM (fun i hi => hi ▸ ha) hb)
  have hA : AtTa w.drew b t s so d who slot word := hT.drew.ta
  have HT := Lib.hid hT
  have HJ := Lib.hid hj
  have HY := Lib.hid hy
  have hq : (y != word) = false := by simp [hyw]
  clear hj hy hyw
  clear hM ha
  have c0 := hT.at' 7 _ rfl
  have c1 := hT.at' 10 _ rfl
  have c2 := hT.at' 6 _ rfl
  clear hT
  go_enter Try.func23, Try.ntmps23
  go_wp2_with fail
  clear c0 c1
  replace HT := Lib.hid HT.out.drew
  replace HS := Lib.hid HS.out.drew
  clear c2
  refine wp_region_seqS ((fun w' => AtTa w' b t s so d who slot word)) ((0, true) :: (1, true) :: (2, true) :: (3, true) :: (4, true) :: (5, true) :: (6, true) :: (7, true) :: (8, true) :: (9, true) :: (10, true) :: (11, true) :: (12, true) :: (13, true) :: (16, true) :: (17, true) :: (18, true) :: (19, true) :: (14, false) :: (15, false) :: (20, true) :: (21, true) :: (22, true) :: (23, false) :: []) (by kernel_rfl) (by kernel_rfl) (by kernel_rfl) (by decide) (fun _ _ _ _ _ h => h) (hA) ?_
  repeat (first | (refine seq_take (v := ?_) rfl ?_ ?_ ?_; rotate_left 1; rfl; (focus (intro wS hSw; obtain ⟨c0, c1, c2, c3, c4, c5, c6⟩ := hSw; go_simp; first | done | with_reducible rfl)); (try simp only [Act.put, List.setIfInBounds_toArray, List.set_cons_zero, List.set_cons_succ])) | (refine seq_skip rfl ?_ ?_; rfl; (try simp only [Act.put, List.setIfInBounds_toArray, List.set_cons_zero, List.set_cons_succ])))
  refine seq_run rfl (fun K hK => ?_)
  go_simp
  go_at_call 15
  refine (word_at _ _ _ _ _ j _ HJ.out).mono ?_
  rintro r w1 ⟨rfl, hb1⟩
  (try go_wp2_with fail)
  replace HT := Lib.hid (HT.out.later hb1)
  replace HS := Lib.hid (HS.out.later hb1)
  clear hb1
  refine hK.out _ _ (HT.out.ta) (fun _ => ?_)
  (try simp only [Act.put, List.setIfInBounds_toArray, List.set_cons_zero, List.set_cons_succ])
  clear hK K
  repeat (first | (refine seq_take (v := ?_) rfl ?_ ?_ ?_; rotate_left 1; rfl; (focus (intro wS hSw; obtain ⟨c0, c1, c2, c3, c4, c5, c6⟩ := hSw; go_simp; first | done | with_reducible rfl)); (try simp only [Act.put, List.setIfInBounds_toArray, List.set_cons_zero, List.set_cons_succ])) | (refine seq_skip rfl ?_ ?_; rfl; (try simp only [Act.put, List.setIfInBounds_toArray, List.set_cons_zero, List.set_cons_succ])))
  refine seq_run rfl (fun K hK => ?_)
  go_simp
  go_at_call 43
  refine (load_in base _ p c _ _ _ who j y HS.out.mem HY.out HS.out.size hL).mono ?_
  rintro r w2 ⟨rfl, v2, hT2⟩
  (try go_wp2_with fail)
  have hlt1 := HT.out.lt
  replace HT := Lib.hid (HT.out.keep hT2.keep (HS.out.apart b rfl))
  replace HS := Lib.hid (HS.out.cells (fun i hi => hi ▸ hlt1) hT2)
  clear hT2 hlt1
  refine hK.out _ _ (HT.out.ta) (fun _ => ?_)
  (try simp only [Act.put, List.setIfInBounds_toArray, List.set_cons_zero, List.set_cons_succ])
  clear hK K
  repeat (first | (refine seq_take (v := ?_) rfl ?_ ?_ ?_; rotate_left 1; rfl; (focus (intro wS hSw; obtain ⟨c0, c1, c2, c3, c4, c5, c6⟩ := hSw; go_simp; first | done | with_reducible rfl)); (try simp only [Act.put, List.setIfInBounds_toArray, List.set_cons_zero, List.set_cons_succ])) | (refine seq_skip rfl ?_ ?_; rfl; (try simp only [Act.put, List.setIfInBounds_toArray, List.set_cons_zero, List.set_cons_succ])))
  have c9 := HT.out.at' 9 _ rfl
  have f9 := HT.out.fz 9
  refine seq_run rfl (fun K hK => ?_)
  go_simp
  replace HT : Hid (IsObj _ b (taL t s so d who slot word 1 value false 0)) := Lib.hid (HT.out.set 9 (.bool false))
  replace HS := Lib.hid (HS.out.own ((Keep.refl _ _).own 9 (.bool false)))
  clear c9 f9
  refine hK.out _ _ (HT.out.ta) (fun _ => ?_)
  (try simp only [Act.put, List.setIfInBounds_toArray, List.set_cons_zero, List.set_cons_succ])
  clear hK K
  refine seq_done ?_
  have c0 := HT.out.at' 0 _ rfl
  have c1 := HT.out.at' 1 _ rfl
  have c2 := HT.out.at' 2 _ rfl
  have c3 := HT.out.at' 3 _ rfl
  have c4 := HT.out.at' 4 _ rfl
  have c5 := HT.out.at' 5 _ rfl
  have c6 := HT.out.at' 6 _ rfl
  have c7 := HT.out.at' 7 _ rfl
  have c8 := HT.out.at' 8 _ rfl
  have c9 := HT.out.at' 9 _ rfl
  have c10 := HT.out.at' 10 _ rfl
  have f7 := HT.out.fz 7
  have f9 := HT.out.fz 9
  have f10 := HT.out.fz 10
  go_wp2_with fail
  refine bodyPost_ret (v := i64 0) (by simp [results, Try.results23, go_sem]) rfl ⟨rfl, _, HS.out.own ((Keep.refl _ _).own 7 _), (HT.out.set 7 (i64 2) : IsObj _ b (taL t s so d who slot word 2 value false 0))⟩

set_option maxRecDepth 100000 in
set_option maxHeartbeats 4000000 in
theorem take_1other (j : Nat) (hj : slot = (j : Int)) (y : Int) (hy : C[j]? = some y) (hyw : y ≠ word) (hT : IsObj w b (taL t s so d who slot word 1 value false 0)) (hl : Lay t s n) (w0 : 0 ≤ who) (w1 : who < t) (s0 : 0 ≤ slot) (s1 : slot < n) (x0 : 0 ≤ word) (x1 : word ≤ 18446744073709551615) (hM : IsMem base w p c v C L) (ha : ¬ Foot p c v b) (hb : base ≤ w.heap.size) (hL : L.length < 1000000000) :
    Calls Try.prog 23 #[pt b, pt p] w (TaPost base w b p c v (taL t s so d who slot word 4 value true 0) C (L ++ [⟨who, 0, j, y, y, true⟩]) (.returned (i64 0))) := by
  have hn1 := hl.n1; have hn2 := hl.n2; have ht1 := hl.t1; have ht2 := hl.t2
  have HS := Lib.hid (Does.refl (B := (· = b)) hM (fun i hi => hi ▸ ha) hb)
  have hA : AtTa w.drew b t s so d who slot word := hT.drew.ta
  have HT := Lib.hid hT
  have HJ := Lib.hid hj
  have HY := Lib.hid hy
  have hq : (y != word) = true := by simp [hyw]
  clear hj hy hyw
  clear hM ha
  have c0 := hT.at' 7 _ rfl
  have c1 := hT.at' 10 _ rfl
  have c2 := hT.at' 6 _ rfl
  clear hT
  go_enter Try.func23, Try.ntmps23
  go_wp2_with fail
  clear c0 c1
  replace HT := Lib.hid HT.out.drew
  replace HS := Lib.hid HS.out.drew
  clear c2
  refine wp_region_seqS ((fun w' => AtTa w' b t s so d who slot word)) ((0, true) :: (1, true) :: (2, true) :: (3, true) :: (4, true) :: (5, true) :: (6, true) :: (7, true) :: (8, true) :: (9, true) :: (10, true) :: (11, true) :: (12, true) :: (13, true) :: (16, true) :: (17, true) :: (18, true) :: (19, true) :: (14, false) :: (15, false) :: (20, true) :: (21, true) :: (22, true) :: (23, false) :: []) (by kernel_rfl) (by kernel_rfl) (by kernel_rfl) (by decide) (fun _ _ _ _ _ h => h) (hA) ?_
  repeat (first | (refine seq_take (v := ?_) rfl ?_ ?_ ?_; rotate_left 1; rfl; (focus (intro wS hSw; obtain ⟨c0, c1, c2, c3, c4, c5, c6⟩ := hSw; go_simp; first | done | with_reducible rfl)); (try simp only [Act.put, List.setIfInBounds_toArray, List.set_cons_zero, List.set_cons_succ])) | (refine seq_skip rfl ?_ ?_; rfl; (try simp only [Act.put, List.setIfInBounds_toArray, List.set_cons_zero, List.set_cons_succ])))
  refine seq_run rfl (fun K hK => ?_)
  go_simp
  go_at_call 15
  refine (word_at _ _ _ _ _ j _ HJ.out).mono ?_
  rintro r w1 ⟨rfl, hb1⟩
  (try go_wp2_with fail)
  replace HT := Lib.hid (HT.out.later hb1)
  replace HS := Lib.hid (HS.out.later hb1)
  clear hb1
  refine hK.out _ _ (HT.out.ta) (fun _ => ?_)
  (try simp only [Act.put, List.setIfInBounds_toArray, List.set_cons_zero, List.set_cons_succ])
  clear hK K
  repeat (first | (refine seq_take (v := ?_) rfl ?_ ?_ ?_; rotate_left 1; rfl; (focus (intro wS hSw; obtain ⟨c0, c1, c2, c3, c4, c5, c6⟩ := hSw; go_simp; first | done | with_reducible rfl)); (try simp only [Act.put, List.setIfInBounds_toArray, List.set_cons_zero, List.set_cons_succ])) | (refine seq_skip rfl ?_ ?_; rfl; (try simp only [Act.put, List.setIfInBounds_toArray, List.set_cons_zero, List.set_cons_succ])))
  refine seq_run rfl (fun K hK => ?_)
  go_simp
  go_at_call 43
  refine (load_in base _ p c _ _ _ who j y HS.out.mem HY.out HS.out.size hL).mono ?_
  rintro r w2 ⟨rfl, v2, hT2⟩
  (try go_wp2_with fail)
  have hlt1 := HT.out.lt
  replace HT := Lib.hid (HT.out.keep hT2.keep (HS.out.apart b rfl))
  replace HS := Lib.hid (HS.out.cells (fun i hi => hi ▸ hlt1) hT2)
  clear hT2 hlt1
  refine hK.out _ _ (HT.out.ta) (fun _ => ?_)
  (try simp only [Act.put, List.setIfInBounds_toArray, List.set_cons_zero, List.set_cons_succ])
  clear hK K
  repeat (first | (refine seq_take (v := ?_) rfl ?_ ?_ ?_; rotate_left 1; rfl; (focus (intro wS hSw; obtain ⟨c0, c1, c2, c3, c4, c5, c6⟩ := hSw; go_simp; first | done | with_reducible rfl)); (try simp only [Act.put, List.setIfInBounds_toArray, List.set_cons_zero, List.set_cons_succ])) | (refine seq_skip rfl ?_ ?_; rfl; (try simp only [Act.put, List.setIfInBounds_toArray, List.set_cons_zero, List.set_cons_succ])))
  have c9 := HT.out.at' 9 _ rfl
  have f9 := HT.out.fz 9
  refine seq_run rfl (fun K hK => ?_)
  go_simp
  replace HT : Hid (IsObj _ b (taL t s so d who slot word 1 value true 0)) := Lib.hid (HT.out.set 9 (.bool true))
  replace HS := Lib.hid (HS.out.own ((Keep.refl _ _).own 9 (.bool true)))
  clear c9 f9
  refine hK.out _ _ (HT.out.ta) (fun _ => ?_)
  (try simp only [Act.put, List.setIfInBounds_toArray, List.set_cons_zero, List.set_cons_succ])
  clear hK K
  refine seq_done ?_
  have c0 := HT.out.at' 0 _ rfl
  have c1 := HT.out.at' 1 _ rfl
  have c2 := HT.out.at' 2 _ rfl
  have c3 := HT.out.at' 3 _ rfl
  have c4 := HT.out.at' 4 _ rfl
  have c5 := HT.out.at' 5 _ rfl
  have c6 := HT.out.at' 6 _ rfl
  have c7 := HT.out.at' 7 _ rfl
  have c8 := HT.out.at' 8 _ rfl
  have c9 := HT.out.at' 9 _ rfl
  have c10 := HT.out.at' 10 _ rfl
  have f7 := HT.out.fz 7
  have f9 := HT.out.fz 9
  have f10 := HT.out.fz 10
  go_wp2_with fail
  refine bodyPost_ret (v := i64 0) (by simp [results, Try.results23, go_sem]) rfl ⟨rfl, _, HS.out.own (((Keep.refl _ _).own 7 _).own 7 _), ((HT.out.set 7 (i64 2)).set 7 (i64 4) : IsObj _ b (taL t s so d who slot word 4 value true 0))⟩

set_option maxRecDepth 100000 in
set_option maxHeartbeats 4000000 in
theorem take_2 (j : Nat) (hj : n + slot = (j : Int)) (y : Int) (hy : C[j]? = some y) (hT : IsObj w b (taL t s so d who slot word 2 value false 0)) (hl : Lay t s n) (w0 : 0 ≤ who) (w1 : who < t) (s0 : 0 ≤ slot) (s1 : slot < n) (x0 : 0 ≤ word) (x1 : word ≤ 18446744073709551615) (hM : IsMem base w p c v C L) (ha : ¬ Foot p c v b) (hb : base ≤ w.heap.size) (hL : L.length < 1000000000) :
    Calls Try.prog 23 #[pt b, pt p] w (TaPost base w b p c v (taL t s so d who slot word 3 y false 0) C (L ++ [⟨who, 0, j, y, y, true⟩]) (.returned (i64 0))) := by
  have hn1 := hl.n1; have hn2 := hl.n2; have ht1 := hl.t1; have ht2 := hl.t2
  have HS := Lib.hid (Does.refl (B := (· = b)) hM (fun i hi => hi ▸ ha) hb)
  have hA : AtTa w.drew b t s so d who slot word := hT.drew.ta
  have HT := Lib.hid hT
  have HJ := Lib.hid hj
  have HY := Lib.hid hy
  clear hj hy
  clear hM ha
  have c0 := hT.at' 7 _ rfl
  have c1 := hT.at' 10 _ rfl
  have c2 := hT.at' 6 _ rfl
  clear hT
  go_enter Try.func23, Try.ntmps23
  go_wp2_with fail
  clear c0 c1
  replace HT := Lib.hid HT.out.drew
  replace HS := Lib.hid HS.out.drew
  clear c2
  refine wp_region_seqS ((fun w' => AtTa w' b t s so d who slot word)) ((0, true) :: (1, true) :: (2, true) :: (3, true) :: (4, true) :: (5, true) :: (6, true) :: (7, true) :: (8, true) :: (9, true) :: (10, true) :: (11, true) :: (12, true) :: (13, true) :: (14, false) :: (15, false) :: (16, true) :: (17, true) :: (18, false) :: []) (by kernel_rfl) (by kernel_rfl) (by kernel_rfl) (by decide) (fun _ _ _ _ _ h => h) (hA) ?_
  repeat (first | (refine seq_take (v := ?_) rfl ?_ ?_ ?_; rotate_left 1; rfl; (focus (intro wS hSw; obtain ⟨c0, c1, c2, c3, c4, c5, c6⟩ := hSw; go_simp; first | done | with_reducible rfl)); (try simp only [Act.put, List.setIfInBounds_toArray, List.set_cons_zero, List.set_cons_succ])) | (refine seq_skip rfl ?_ ?_; rfl; (try simp only [Act.put, List.setIfInBounds_toArray, List.set_cons_zero, List.set_cons_succ])))
  refine seq_run rfl (fun K hK => ?_)
  go_simp
  go_at_call 18
  refine (value_at _ _ _ _ n _ j _ hl s0 (by omega) HJ.out).mono ?_
  rintro r w1 ⟨rfl, hb1⟩
  (try go_wp2_with fail)
  replace HT := Lib.hid (HT.out.later hb1)
  replace HS := Lib.hid (HS.out.later hb1)
  clear hb1
  refine hK.out _ _ (HT.out.ta) (fun _ => ?_)
  (try simp only [Act.put, List.setIfInBounds_toArray, List.set_cons_zero, List.set_cons_succ])
  clear hK K
  repeat (first | (refine seq_take (v := ?_) rfl ?_ ?_ ?_; rotate_left 1; rfl; (focus (intro wS hSw; obtain ⟨c0, c1, c2, c3, c4, c5, c6⟩ := hSw; go_simp; first | done | with_reducible rfl)); (try simp only [Act.put, List.setIfInBounds_toArray, List.set_cons_zero, List.set_cons_succ])) | (refine seq_skip rfl ?_ ?_; rfl; (try simp only [Act.put, List.setIfInBounds_toArray, List.set_cons_zero, List.set_cons_succ])))
  refine seq_run rfl (fun K hK => ?_)
  go_simp
  go_at_call 43
  refine (load_in base _ p c _ _ _ who j y HS.out.mem HY.out HS.out.size hL).mono ?_
  rintro r w2 ⟨rfl, v2, hT2⟩
  (try go_wp2_with fail)
  have hlt1 := HT.out.lt
  replace HT := Lib.hid (HT.out.keep hT2.keep (HS.out.apart b rfl))
  replace HS := Lib.hid (HS.out.cells (fun i hi => hi ▸ hlt1) hT2)
  clear hT2 hlt1
  refine hK.out _ _ (HT.out.ta) (fun _ => ?_)
  (try simp only [Act.put, List.setIfInBounds_toArray, List.set_cons_zero, List.set_cons_succ])
  clear hK K
  repeat (first | (refine seq_take (v := ?_) rfl ?_ ?_ ?_; rotate_left 1; rfl; (focus (intro wS hSw; obtain ⟨c0, c1, c2, c3, c4, c5, c6⟩ := hSw; go_simp; first | done | with_reducible rfl)); (try simp only [Act.put, List.setIfInBounds_toArray, List.set_cons_zero, List.set_cons_succ])) | (refine seq_skip rfl ?_ ?_; rfl; (try simp only [Act.put, List.setIfInBounds_toArray, List.set_cons_zero, List.set_cons_succ])))
  have c8 := HT.out.at' 8 _ rfl
  have f8 := HT.out.fz 8
  refine seq_run rfl (fun K hK => ?_)
  go_simp
  replace HT : Hid (IsObj _ b (taL t s so d who slot word 2 y false 0)) := Lib.hid (HT.out.set 8 (u64 y))
  replace HS := Lib.hid (HS.out.own ((Keep.refl _ _).own 8 (u64 y)))
  clear c8 f8
  refine hK.out _ _ (HT.out.ta) (fun _ => ?_)
  (try simp only [Act.put, List.setIfInBounds_toArray, List.set_cons_zero, List.set_cons_succ])
  clear hK K
  refine seq_done ?_
  have c0 := HT.out.at' 0 _ rfl
  have c1 := HT.out.at' 1 _ rfl
  have c2 := HT.out.at' 2 _ rfl
  have c3 := HT.out.at' 3 _ rfl
  have c4 := HT.out.at' 4 _ rfl
  have c5 := HT.out.at' 5 _ rfl
  have c6 := HT.out.at' 6 _ rfl
  have c7 := HT.out.at' 7 _ rfl
  have c8 := HT.out.at' 8 _ rfl
  have c9 := HT.out.at' 9 _ rfl
  have c10 := HT.out.at' 10 _ rfl
  have f7 := HT.out.fz 7
  have f9 := HT.out.fz 9
  have f10 := HT.out.fz 10
  go_wp2_with fail
  refine bodyPost_ret (v := i64 0) (by simp [results, Try.results23, go_sem]) rfl ⟨rfl, _, HS.out.own ((Keep.refl _ _).own 7 _), (HT.out.set 7 (i64 3) : IsObj _ b (taL t s so d who slot word 3 y false 0))⟩

set_option maxRecDepth 100000 in
set_option maxHeartbeats 4000000 in
theorem take_3same (j : Nat) (hj : slot = (j : Int)) (hy : C[j]? = some word)  (hT : IsObj w b (taL t s so d who slot word 3 value false 0)) (hl : Lay t s n) (w0 : 0 ≤ who) (w1 : who < t) (s0 : 0 ≤ slot) (s1 : slot < n) (x0 : 0 ≤ word) (x1 : word ≤ 18446744073709551615) (hM : IsMem base w p c v C L) (ha : ¬ Foot p c v b) (hb : base ≤ w.heap.size) (hL : L.length < 1000000000) :
    Calls Try.prog 23 #[pt b, pt p] w (TaPost base w b p c v (taL t s so d who slot word 4 value false 0) (C.set j (tkW word)) (L ++ [⟨who, 2, j, word, tkW word, true⟩]) (.returned (i64 0))) := by
  have hn1 := hl.n1; have hn2 := hl.n2; have ht1 := hl.t1; have ht2 := hl.t2
  have HS := Lib.hid (Does.refl (B := (· = b)) hM (fun i hi => hi ▸ ha) hb)
  have hA : AtTa w.drew b t s so d who slot word := hT.drew.ta
  have HT := Lib.hid hT
  have HJ := Lib.hid hj
  have HY := Lib.hid hy
  clear hj hy
  obtain ⟨kw, hkw⟩ : ∃ kw : Int, tkW word = kw := ⟨_, rfl⟩
  have hk0 : 0 ≤ kw ∧ kw ≤ 18446744073709551615 := by rw [← hkw]; unfold tkW; omega
  obtain ⟨hk0, hk1⟩ := hk0
  rw [hkw]
  have HKW := Lib.hid hkw
  clear hkw
  clear hM ha
  have c0 := hT.at' 7 _ rfl
  have c1 := hT.at' 10 _ rfl
  have c2 := hT.at' 6 _ rfl
  clear hT
  go_enter Try.func23, Try.ntmps23
  go_wp2_with fail
  clear c0 c1
  refine (unpack_any word _ x0 x1).mono ?_
  rintro r w1 ⟨rfl, hb1⟩
  replace HT := Lib.hid (HT.out.later hb1)
  replace HS := Lib.hid (HS.out.later hb1)
  clear hb1
  go_wp2_with fail
  refine (taken_any _ _ _ _ _ _).mono ?_
  rintro r w1 ⟨rfl, hb1⟩
  replace HT := Lib.hid (HT.out.later hb1)
  replace HS := Lib.hid (HS.out.later hb1)
  clear hb1
  go_wp2_with fail
  refine (pack_right 2 (word / 4 % 2) (word / 8 % 8192) (word / 65536 % 16777216) (word / 1099511627776) _ ⟨by omega, by omega, by omega, by omega, by omega, by omega, by omega, by omega, by omega, by omega⟩).mono ?_
  rintro r w1 ⟨rfl, hb1⟩
  replace HT := Lib.hid (HT.out.later hb1)
  replace HS := Lib.hid (HS.out.later hb1)
  clear hb1
  rw [show 2 + 4 * (word / 4 % 2) + 8 * (word / 8 % 8192) + 65536 * (word / 65536 % 16777216) + 1099511627776 * (word / 1099511627776) = kw from HKW.out]
  clear c2
  go_wp2_with fail
  have hA := HT.out.drew.ta
  replace HT := Lib.hid HT.out.drew
  replace HS := Lib.hid HS.out.drew
  refine wp_region_seqS ((fun w' => AtTa w' b t s so d who slot word)) ((0, true) :: (1, true) :: (2, true) :: (3, true) :: (4, true) :: (5, true) :: (6, true) :: (7, true) :: (8, true) :: (9, true) :: (10, true) :: (11, true) :: (12, true) :: (13, true) :: (15, true) :: (16, true) :: (17, true) :: (18, true) :: (19, true) :: (14, false) :: (20, false) :: (21, true) :: (22, true) :: (23, true) :: (24, false) :: []) (by kernel_rfl) (by kernel_rfl) (by kernel_rfl) (by decide) (fun _ _ _ _ _ h => h) (hA) ?_
  repeat (first | (refine seq_take (v := ?_) rfl ?_ ?_ ?_; rotate_left 1; rfl; (focus (intro wS hSw; obtain ⟨c0, c1, c2, c3, c4, c5, c6⟩ := hSw; go_simp; first | done | with_reducible rfl)); (try simp only [Act.put, List.setIfInBounds_toArray, List.set_cons_zero, List.set_cons_succ])) | (refine seq_skip rfl ?_ ?_; rfl; (try simp only [Act.put, List.setIfInBounds_toArray, List.set_cons_zero, List.set_cons_succ])))
  refine seq_run rfl (fun K hK => ?_)
  go_simp
  go_at_call 15
  refine (word_at _ _ _ _ _ j _ HJ.out).mono ?_
  rintro r w1 ⟨rfl, hb1⟩
  (try go_wp2_with fail)
  replace HT := Lib.hid (HT.out.later hb1)
  replace HS := Lib.hid (HS.out.later hb1)
  clear hb1
  refine hK.out _ _ (HT.out.ta) (fun _ => ?_)
  (try simp only [Act.put, List.setIfInBounds_toArray, List.set_cons_zero, List.set_cons_succ])
  clear hK K
  repeat (first | (refine seq_take (v := ?_) rfl ?_ ?_ ?_; rotate_left 1; rfl; (focus (intro wS hSw; obtain ⟨c0, c1, c2, c3, c4, c5, c6⟩ := hSw; go_simp; first | done | with_reducible rfl)); (try simp only [Act.put, List.setIfInBounds_toArray, List.set_cons_zero, List.set_cons_succ])) | (refine seq_skip rfl ?_ ?_; rfl; (try simp only [Act.put, List.setIfInBounds_toArray, List.set_cons_zero, List.set_cons_succ])))
  refine seq_run rfl (fun K hK => ?_)
  go_simp
  go_at_call 46
  refine (swap_yes base _ p c _ _ _ who j word kw HS.out.mem HY.out HS.out.size hL hk0 hk1).mono ?_
  rintro r w2 ⟨rfl, v2, hT2⟩
  (try go_wp2_with fail)
  have hlt1 := HT.out.lt
  replace HT := Lib.hid (HT.out.keep hT2.keep (HS.out.apart b rfl))
  replace HS := Lib.hid (HS.out.cells (fun i hi => hi ▸ hlt1) hT2)
  clear hT2 hlt1
  refine hK.out _ _ (HT.out.ta) (fun _ => ?_)
  (try simp only [Act.put, List.setIfInBounds_toArray, List.set_cons_zero, List.set_cons_succ])
  clear hK K
  repeat (first | (refine seq_take (v := ?_) rfl ?_ ?_ ?_; rotate_left 1; rfl; (focus (intro wS hSw; obtain ⟨c0, c1, c2, c3, c4, c5, c6⟩ := hSw; go_simp; first | done | with_reducible rfl)); (try simp only [Act.put, List.setIfInBounds_toArray, List.set_cons_zero, List.set_cons_succ])) | (refine seq_skip rfl ?_ ?_; rfl; (try simp only [Act.put, List.setIfInBounds_toArray, List.set_cons_zero, List.set_cons_succ])))
  have c9 := HT.out.at' 9 _ rfl
  have f9 := HT.out.fz 9
  refine seq_run rfl (fun K hK => ?_)
  go_simp
  replace HT : Hid (IsObj _ b (taL t s so d who slot word 3 value false 0)) := Lib.hid (HT.out.set 9 (.bool false))
  replace HS := Lib.hid (HS.out.own ((Keep.refl _ _).own 9 (.bool false)))
  clear c9 f9
  refine hK.out _ _ (HT.out.ta) (fun _ => ?_)
  (try simp only [Act.put, List.setIfInBounds_toArray, List.set_cons_zero, List.set_cons_succ])
  clear hK K
  refine seq_done ?_
  have c0 := HT.out.at' 0 _ rfl
  have c1 := HT.out.at' 1 _ rfl
  have c2 := HT.out.at' 2 _ rfl
  have c3 := HT.out.at' 3 _ rfl
  have c4 := HT.out.at' 4 _ rfl
  have c5 := HT.out.at' 5 _ rfl
  have c6 := HT.out.at' 6 _ rfl
  have c7 := HT.out.at' 7 _ rfl
  have c8 := HT.out.at' 8 _ rfl
  have c9 := HT.out.at' 9 _ rfl
  have c10 := HT.out.at' 10 _ rfl
  have f7 := HT.out.fz 7
  have f9 := HT.out.fz 9
  have f10 := HT.out.fz 10
  go_wp2_with fail
  refine bodyPost_ret (v := i64 0) (by simp [results, Try.results23, go_sem]) rfl ⟨rfl, _, HS.out.own ((Keep.refl _ _).own 7 _), (HT.out.set 7 (i64 4) : IsObj _ b (taL t s so d who slot word 4 value false 0))⟩

set_option maxRecDepth 100000 in
set_option maxHeartbeats 4000000 in
theorem take_3other (j : Nat) (hj : slot = (j : Int)) (y : Int) (hy : C[j]? = some y) (hyw : y ≠ word) (hT : IsObj w b (taL t s so d who slot word 3 value false 0)) (hl : Lay t s n) (w0 : 0 ≤ who) (w1 : who < t) (s0 : 0 ≤ slot) (s1 : slot < n) (x0 : 0 ≤ word) (x1 : word ≤ 18446744073709551615) (hM : IsMem base w p c v C L) (ha : ¬ Foot p c v b) (hb : base ≤ w.heap.size) (hL : L.length < 1000000000) :
    Calls Try.prog 23 #[pt b, pt p] w (TaPost base w b p c v (taL t s so d who slot word 4 value true 0) C (L ++ [⟨who, 2, j, y, y, false⟩]) (.returned (i64 0))) := by
  have hn1 := hl.n1; have hn2 := hl.n2; have ht1 := hl.t1; have ht2 := hl.t2
  have HS := Lib.hid (Does.refl (B := (· = b)) hM (fun i hi => hi ▸ ha) hb)
  have hA : AtTa w.drew b t s so d who slot word := hT.drew.ta
  have HT := Lib.hid hT
  have HJ := Lib.hid hj
  have HY := Lib.hid hy
  have HNE := Lib.hid hyw
  clear hyw
  clear hj hy
  obtain ⟨kw, hkw⟩ : ∃ kw : Int, tkW word = kw := ⟨_, rfl⟩
  have hk0 : 0 ≤ kw ∧ kw ≤ 18446744073709551615 := by rw [← hkw]; unfold tkW; omega
  obtain ⟨hk0, hk1⟩ := hk0
  have HKW := Lib.hid hkw
  clear hkw
  clear hM ha
  have c0 := hT.at' 7 _ rfl
  have c1 := hT.at' 10 _ rfl
  have c2 := hT.at' 6 _ rfl
  clear hT
  go_enter Try.func23, Try.ntmps23
  go_wp2_with fail
  clear c0 c1
  refine (unpack_any word _ x0 x1).mono ?_
  rintro r w1 ⟨rfl, hb1⟩
  replace HT := Lib.hid (HT.out.later hb1)
  replace HS := Lib.hid (HS.out.later hb1)
  clear hb1
  go_wp2_with fail
  refine (taken_any _ _ _ _ _ _).mono ?_
  rintro r w1 ⟨rfl, hb1⟩
  replace HT := Lib.hid (HT.out.later hb1)
  replace HS := Lib.hid (HS.out.later hb1)
  clear hb1
  go_wp2_with fail
  refine (pack_right 2 (word / 4 % 2) (word / 8 % 8192) (word / 65536 % 16777216) (word / 1099511627776) _ ⟨by omega, by omega, by omega, by omega, by omega, by omega, by omega, by omega, by omega, by omega⟩).mono ?_
  rintro r w1 ⟨rfl, hb1⟩
  replace HT := Lib.hid (HT.out.later hb1)
  replace HS := Lib.hid (HS.out.later hb1)
  clear hb1
  rw [show 2 + 4 * (word / 4 % 2) + 8 * (word / 8 % 8192) + 65536 * (word / 65536 % 16777216) + 1099511627776 * (word / 1099511627776) = kw from HKW.out]
  clear c2
  go_wp2_with fail
  have hA := HT.out.drew.ta
  replace HT := Lib.hid HT.out.drew
  replace HS := Lib.hid HS.out.drew
  refine wp_region_seqS ((fun w' => AtTa w' b t s so d who slot word)) ((0, true) :: (1, true) :: (2, true) :: (3, true) :: (4, true) :: (5, true) :: (6, true) :: (7, true) :: (8, true) :: (9, true) :: (10, true) :: (11, true) :: (12, true) :: (13, true) :: (15, true) :: (16, true) :: (17, true) :: (18, true) :: (19, true) :: (14, false) :: (20, false) :: (21, true) :: (22, true) :: (23, true) :: (24, false) :: []) (by kernel_rfl) (by kernel_rfl) (by kernel_rfl) (by decide) (fun _ _ _ _ _ h => h) (hA) ?_
  repeat (first | (refine seq_take (v := ?_) rfl ?_ ?_ ?_; rotate_left 1; rfl; (focus (intro wS hSw; obtain ⟨c0, c1, c2, c3, c4, c5, c6⟩ := hSw; go_simp; first | done | with_reducible rfl)); (try simp only [Act.put, List.setIfInBounds_toArray, List.set_cons_zero, List.set_cons_succ])) | (refine seq_skip rfl ?_ ?_; rfl; (try simp only [Act.put, List.setIfInBounds_toArray, List.set_cons_zero, List.set_cons_succ])))
  refine seq_run rfl (fun K hK => ?_)
  go_simp
  go_at_call 15
  refine (word_at _ _ _ _ _ j _ HJ.out).mono ?_
  rintro r w1 ⟨rfl, hb1⟩
  (try go_wp2_with fail)
  replace HT := Lib.hid (HT.out.later hb1)
  replace HS := Lib.hid (HS.out.later hb1)
  clear hb1
  refine hK.out _ _ (HT.out.ta) (fun _ => ?_)
  (try simp only [Act.put, List.setIfInBounds_toArray, List.set_cons_zero, List.set_cons_succ])
  clear hK K
  repeat (first | (refine seq_take (v := ?_) rfl ?_ ?_ ?_; rotate_left 1; rfl; (focus (intro wS hSw; obtain ⟨c0, c1, c2, c3, c4, c5, c6⟩ := hSw; go_simp; first | done | with_reducible rfl)); (try simp only [Act.put, List.setIfInBounds_toArray, List.set_cons_zero, List.set_cons_succ])) | (refine seq_skip rfl ?_ ?_; rfl; (try simp only [Act.put, List.setIfInBounds_toArray, List.set_cons_zero, List.set_cons_succ])))
  refine seq_run rfl (fun K hK => ?_)
  go_simp
  go_at_call 46
  refine (swap_no base _ p c _ _ _ who j y word kw HS.out.mem HY.out HS.out.size hL HNE.out).mono ?_
  rintro r w2 ⟨rfl, v2, hT2⟩
  (try go_wp2_with fail)
  have hlt1 := HT.out.lt
  replace HT := Lib.hid (HT.out.keep hT2.keep (HS.out.apart b rfl))
  replace HS := Lib.hid (HS.out.cells (fun i hi => hi ▸ hlt1) hT2)
  clear hT2 hlt1
  refine hK.out _ _ (HT.out.ta) (fun _ => ?_)
  (try simp only [Act.put, List.setIfInBounds_toArray, List.set_cons_zero, List.set_cons_succ])
  clear hK K
  repeat (first | (refine seq_take (v := ?_) rfl ?_ ?_ ?_; rotate_left 1; rfl; (focus (intro wS hSw; obtain ⟨c0, c1, c2, c3, c4, c5, c6⟩ := hSw; go_simp; first | done | with_reducible rfl)); (try simp only [Act.put, List.setIfInBounds_toArray, List.set_cons_zero, List.set_cons_succ])) | (refine seq_skip rfl ?_ ?_; rfl; (try simp only [Act.put, List.setIfInBounds_toArray, List.set_cons_zero, List.set_cons_succ])))
  have c9 := HT.out.at' 9 _ rfl
  have f9 := HT.out.fz 9
  refine seq_run rfl (fun K hK => ?_)
  go_simp
  replace HT : Hid (IsObj _ b (taL t s so d who slot word 3 value true 0)) := Lib.hid (HT.out.set 9 (.bool true))
  replace HS := Lib.hid (HS.out.own ((Keep.refl _ _).own 9 (.bool true)))
  clear c9 f9
  refine hK.out _ _ (HT.out.ta) (fun _ => ?_)
  (try simp only [Act.put, List.setIfInBounds_toArray, List.set_cons_zero, List.set_cons_succ])
  clear hK K
  refine seq_done ?_
  have c0 := HT.out.at' 0 _ rfl
  have c1 := HT.out.at' 1 _ rfl
  have c2 := HT.out.at' 2 _ rfl
  have c3 := HT.out.at' 3 _ rfl
  have c4 := HT.out.at' 4 _ rfl
  have c5 := HT.out.at' 5 _ rfl
  have c6 := HT.out.at' 6 _ rfl
  have c7 := HT.out.at' 7 _ rfl
  have c8 := HT.out.at' 8 _ rfl
  have c9 := HT.out.at' 9 _ rfl
  have c10 := HT.out.at' 10 _ rfl
  have f7 := HT.out.fz 7
  have f9 := HT.out.fz 9
  have f10 := HT.out.fz 10
  go_wp2_with fail
  refine bodyPost_ret (v := i64 0) (by simp [results, Try.results23, go_sem]) rfl ⟨rfl, _, HS.out.own (((Keep.refl _ _).own 7 _).own 7 _), ((HT.out.set 7 (i64 4)).set 7 (i64 4) : IsObj _ b (taL t s so d who slot word 4 value true 0))⟩

set_option maxRecDepth 100000 in
set_option maxHeartbeats 1000000 in
theorem end_false (w : World) (b : Nat) (t s so d who slot word next value : Int) (hT : IsObj w b (taL t s so d who slot word next value false 0)) :
    Calls Try.prog 47 #[pt b] w fun r w' => r = .returned (.tuple #[]) ∧ IsObj w' b (taL t s so d who slot word next value false 1) ∧ Keep (· = b) w w' := by
  have c9 := hT.at' 9 _ rfl
  have c10 := hT.at' 10 _ rfl
  have f10 := hT.fz 10
  have HT := Lib.hid hT
  clear hT
  go_enter Try.func47, Try.ntmps47
  go_wp2
  go_end0
  exact ⟨rfl, (HT.out.set 10 (i64 1) : IsObj _ b (taL t s so d who slot word next value false 1)), (Keep.refl _ _).own 10 _⟩

set_option maxRecDepth 100000 in
set_option maxHeartbeats 4000000 in
theorem take_4false (hz : Nat) (hhz : 2 * n + who = (hz : Int)) (y : Int) (hy : C[hz]? = some y) (hT : IsObj w b (taL t s so d who slot word 4 value false 0)) (hl : Lay t s n) (w0 : 0 ≤ who) (w1 : who < t) (s0 : 0 ≤ slot) (s1 : slot < n) (x0 : 0 ≤ word) (x1 : word ≤ 18446744073709551615) (hM : IsMem base w p c v C L) (ha : ¬ Foot p c v b) (hb : base ≤ w.heap.size) (hL : L.length < 1000000000) :
    Calls Try.prog 23 #[pt b, pt p] w (TaPost base w b p c v (taL t s so d who slot word 5 value false 1) (C.set hz 0) (L ++ [⟨who, 1, hz, y, 0, true⟩]) (.returned (i64 1))) := by
  have hn1 := hl.n1; have hn2 := hl.n2; have ht1 := hl.t1; have ht2 := hl.t2
  have HS := Lib.hid (Does.refl (B := (· = b)) hM (fun i hi => hi ▸ ha) hb)
  have hA : AtTa w.drew b t s so d who slot word := hT.drew.ta
  have HT := Lib.hid hT
  have HHZ := Lib.hid hhz
  have HY := Lib.hid hy
  clear hhz hy
  clear hM ha
  have c0 := hT.at' 7 _ rfl
  have c1 := hT.at' 10 _ rfl
  have c2 := hT.at' 6 _ rfl
  clear hT
  go_enter Try.func23, Try.ntmps23
  go_wp2_with fail
  clear c0 c1
  replace HT := Lib.hid HT.out.drew
  replace HS := Lib.hid HS.out.drew
  clear c2
  refine wp_region_seqS ((fun w' => AtTa w' b t s so d who slot word)) ((0, true) :: (1, true) :: (2, true) :: (3, true) :: (4, true) :: (5, true) :: (6, true) :: (7, true) :: (8, true) :: (9, true) :: (10, true) :: (11, true) :: (12, true) :: (13, false) :: (14, false) :: []) (by kernel_rfl) (by kernel_rfl) (by kernel_rfl) (by decide) (fun _ _ _ _ _ h => h) (hA) ?_
  repeat (first | (refine seq_take (v := ?_) rfl ?_ ?_ ?_; rotate_left 1; rfl; (focus (intro wS hSw; obtain ⟨c0, c1, c2, c3, c4, c5, c6⟩ := hSw; go_simp; first | done | with_reducible rfl)); (try simp only [Act.put, List.setIfInBounds_toArray, List.set_cons_zero, List.set_cons_succ])) | (refine seq_skip rfl ?_ ?_; rfl; (try simp only [Act.put, List.setIfInBounds_toArray, List.set_cons_zero, List.set_cons_succ])))
  refine seq_run rfl (fun K hK => ?_)
  go_simp
  go_at_call 35
  refine (hazard_at _ _ _ _ n _ hz _ hl w0 (by omega) HHZ.out).mono ?_
  rintro r w1 ⟨rfl, hb1⟩
  (try go_wp2_with fail)
  replace HT := Lib.hid (HT.out.later hb1)
  replace HS := Lib.hid (HS.out.later hb1)
  clear hb1
  refine hK.out _ _ (HT.out.ta) (fun _ => ?_)
  (try simp only [Act.put, List.setIfInBounds_toArray, List.set_cons_zero, List.set_cons_succ])
  clear hK K
  repeat (first | (refine seq_take (v := ?_) rfl ?_ ?_ ?_; rotate_left 1; rfl; (focus (intro wS hSw; obtain ⟨c0, c1, c2, c3, c4, c5, c6⟩ := hSw; go_simp; first | done | with_reducible rfl)); (try simp only [Act.put, List.setIfInBounds_toArray, List.set_cons_zero, List.set_cons_succ])) | (refine seq_skip rfl ?_ ?_; rfl; (try simp only [Act.put, List.setIfInBounds_toArray, List.set_cons_zero, List.set_cons_succ])))
  refine seq_run rfl (fun K hK => ?_)
  go_simp
  go_at_call 14
  refine (store_in base _ p c _ _ _ who hz y 0 HS.out.mem HY.out HS.out.size hL (by omega) (by omega)).mono ?_
  rintro r w2 ⟨rfl, v2, hT2⟩
  (try go_wp2_with fail)
  have hlt1 := HT.out.lt
  replace HT := Lib.hid (HT.out.keep hT2.keep (HS.out.apart b rfl))
  replace HS := Lib.hid (HS.out.cells (fun i hi => hi ▸ hlt1) hT2)
  clear hT2 hlt1
  refine hK.out _ _ (HT.out.ta) (fun _ => ?_)
  (try simp only [Act.put, List.setIfInBounds_toArray, List.set_cons_zero, List.set_cons_succ])
  clear hK K
  repeat (first | (refine seq_take (v := ?_) rfl ?_ ?_ ?_; rotate_left 1; rfl; (focus (intro wS hSw; obtain ⟨c0, c1, c2, c3, c4, c5, c6⟩ := hSw; go_simp; first | done | with_reducible rfl)); (try simp only [Act.put, List.setIfInBounds_toArray, List.set_cons_zero, List.set_cons_succ])) | (refine seq_skip rfl ?_ ?_; rfl; (try simp only [Act.put, List.setIfInBounds_toArray, List.set_cons_zero, List.set_cons_succ])))
  refine seq_done ?_
  go_wp2_with fail
  refine (end_false _ b t s so d who slot word 4 value HT.out).mono ?_
  rintro r w3 ⟨rfl, hT3, hK3⟩
  replace HT := Lib.hid hT3
  replace HS := Lib.hid (HS.out.own hK3)
  clear hT3 hK3
  have c0 := HT.out.at' 0 _ rfl
  have c1 := HT.out.at' 1 _ rfl
  have c2 := HT.out.at' 2 _ rfl
  have c3 := HT.out.at' 3 _ rfl
  have c4 := HT.out.at' 4 _ rfl
  have c5 := HT.out.at' 5 _ rfl
  have c6 := HT.out.at' 6 _ rfl
  have c7 := HT.out.at' 7 _ rfl
  have c8 := HT.out.at' 8 _ rfl
  have c9 := HT.out.at' 9 _ rfl
  have c10 := HT.out.at' 10 _ rfl
  have f7 := HT.out.fz 7
  have f9 := HT.out.fz 9
  have f10 := HT.out.fz 10
  go_wp2_with fail
  refine bodyPost_ret (v := i64 1) (by simp [results, Try.results23, go_sem]) rfl ⟨rfl, _, HS.out.own ((Keep.refl _ _).own 7 _), (HT.out.set 7 (i64 5) : IsObj _ b (taL t s so d who slot word 5 value false 1))⟩

set_option maxRecDepth 100000 in
set_option maxHeartbeats 1000000 in
theorem end_true (w : World) (b : Nat) (t s so d who slot word next value : Int) (hT : IsObj w b (taL t s so d who slot word next value true 0)) :
    Calls Try.prog 47 #[pt b] w fun r w' => r = .returned (.tuple #[]) ∧ IsObj w' b (taL t s so d who slot word next value true 2) ∧ Keep (· = b) w w' := by
  have c9 := hT.at' 9 _ rfl
  have c10 := hT.at' 10 _ rfl
  have f10 := hT.fz 10
  have HT := Lib.hid hT
  clear hT
  go_enter Try.func47, Try.ntmps47
  go_wp2
  go_end0
  exact ⟨rfl, ((HT.out.set 10 (i64 1)).set 10 (i64 2) : IsObj _ b (taL t s so d who slot word next value true 2)), ((Keep.refl _ _).own 10 _).own 10 _⟩

set_option maxRecDepth 100000 in
set_option maxHeartbeats 4000000 in
theorem take_4true (hz : Nat) (hhz : 2 * n + who = (hz : Int)) (y : Int) (hy : C[hz]? = some y) (hT : IsObj w b (taL t s so d who slot word 4 value true 0)) (hl : Lay t s n) (w0 : 0 ≤ who) (w1 : who < t) (s0 : 0 ≤ slot) (s1 : slot < n) (x0 : 0 ≤ word) (x1 : word ≤ 18446744073709551615) (hM : IsMem base w p c v C L) (ha : ¬ Foot p c v b) (hb : base ≤ w.heap.size) (hL : L.length < 1000000000) :
    Calls Try.prog 23 #[pt b, pt p] w (TaPost base w b p c v (taL t s so d who slot word 4 value true 2) (C.set hz 0) (L ++ [⟨who, 1, hz, y, 0, true⟩]) (.returned (i64 2))) := by
  have hn1 := hl.n1; have hn2 := hl.n2; have ht1 := hl.t1; have ht2 := hl.t2
  have HS := Lib.hid (Does.refl (B := (· = b)) hM (fun i hi => hi ▸ ha) hb)
  have hA : AtTa w.drew b t s so d who slot word := hT.drew.ta
  have HT := Lib.hid hT
  have HHZ := Lib.hid hhz
  have HY := Lib.hid hy
  clear hhz hy
  clear hM ha
  have c0 := hT.at' 7 _ rfl
  have c1 := hT.at' 10 _ rfl
  have c2 := hT.at' 6 _ rfl
  clear hT
  go_enter Try.func23, Try.ntmps23
  go_wp2_with fail
  clear c0 c1
  replace HT := Lib.hid HT.out.drew
  replace HS := Lib.hid HS.out.drew
  clear c2
  refine wp_region_seqS ((fun w' => AtTa w' b t s so d who slot word)) ((0, true) :: (1, true) :: (2, true) :: (3, true) :: (4, true) :: (5, true) :: (6, true) :: (7, true) :: (8, true) :: (9, true) :: (10, true) :: (11, true) :: (12, true) :: (13, false) :: (14, false) :: []) (by kernel_rfl) (by kernel_rfl) (by kernel_rfl) (by decide) (fun _ _ _ _ _ h => h) (hA) ?_
  repeat (first | (refine seq_take (v := ?_) rfl ?_ ?_ ?_; rotate_left 1; rfl; (focus (intro wS hSw; obtain ⟨c0, c1, c2, c3, c4, c5, c6⟩ := hSw; go_simp; first | done | with_reducible rfl)); (try simp only [Act.put, List.setIfInBounds_toArray, List.set_cons_zero, List.set_cons_succ])) | (refine seq_skip rfl ?_ ?_; rfl; (try simp only [Act.put, List.setIfInBounds_toArray, List.set_cons_zero, List.set_cons_succ])))
  refine seq_run rfl (fun K hK => ?_)
  go_simp
  go_at_call 35
  refine (hazard_at _ _ _ _ n _ hz _ hl w0 (by omega) HHZ.out).mono ?_
  rintro r w1 ⟨rfl, hb1⟩
  (try go_wp2_with fail)
  replace HT := Lib.hid (HT.out.later hb1)
  replace HS := Lib.hid (HS.out.later hb1)
  clear hb1
  refine hK.out _ _ (HT.out.ta) (fun _ => ?_)
  (try simp only [Act.put, List.setIfInBounds_toArray, List.set_cons_zero, List.set_cons_succ])
  clear hK K
  repeat (first | (refine seq_take (v := ?_) rfl ?_ ?_ ?_; rotate_left 1; rfl; (focus (intro wS hSw; obtain ⟨c0, c1, c2, c3, c4, c5, c6⟩ := hSw; go_simp; first | done | with_reducible rfl)); (try simp only [Act.put, List.setIfInBounds_toArray, List.set_cons_zero, List.set_cons_succ])) | (refine seq_skip rfl ?_ ?_; rfl; (try simp only [Act.put, List.setIfInBounds_toArray, List.set_cons_zero, List.set_cons_succ])))
  refine seq_run rfl (fun K hK => ?_)
  go_simp
  go_at_call 14
  refine (store_in base _ p c _ _ _ who hz y 0 HS.out.mem HY.out HS.out.size hL (by omega) (by omega)).mono ?_
  rintro r w2 ⟨rfl, v2, hT2⟩
  (try go_wp2_with fail)
  have hlt1 := HT.out.lt
  replace HT := Lib.hid (HT.out.keep hT2.keep (HS.out.apart b rfl))
  replace HS := Lib.hid (HS.out.cells (fun i hi => hi ▸ hlt1) hT2)
  clear hT2 hlt1
  refine hK.out _ _ (HT.out.ta) (fun _ => ?_)
  (try simp only [Act.put, List.setIfInBounds_toArray, List.set_cons_zero, List.set_cons_succ])
  clear hK K
  repeat (first | (refine seq_take (v := ?_) rfl ?_ ?_ ?_; rotate_left 1; rfl; (focus (intro wS hSw; obtain ⟨c0, c1, c2, c3, c4, c5, c6⟩ := hSw; go_simp; first | done | with_reducible rfl)); (try simp only [Act.put, List.setIfInBounds_toArray, List.set_cons_zero, List.set_cons_succ])) | (refine seq_skip rfl ?_ ?_; rfl; (try simp only [Act.put, List.setIfInBounds_toArray, List.set_cons_zero, List.set_cons_succ])))
  refine seq_done ?_
  go_wp2_with fail
  refine (end_true _ b t s so d who slot word 4 value HT.out).mono ?_
  rintro r w3 ⟨rfl, hT3, hK3⟩
  replace HT := Lib.hid hT3
  replace HS := Lib.hid (HS.out.own hK3)
  clear hT3 hK3
  have c0 := HT.out.at' 0 _ rfl
  have c1 := HT.out.at' 1 _ rfl
  have c2 := HT.out.at' 2 _ rfl
  have c3 := HT.out.at' 3 _ rfl
  have c4 := HT.out.at' 4 _ rfl
  have c5 := HT.out.at' 5 _ rfl
  have c6 := HT.out.at' 6 _ rfl
  have c7 := HT.out.at' 7 _ rfl
  have c8 := HT.out.at' 8 _ rfl
  have c9 := HT.out.at' 9 _ rfl
  have c10 := HT.out.at' 10 _ rfl
  have f7 := HT.out.fz 7
  have f9 := HT.out.fz 9
  have f10 := HT.out.fz 10
  go_wp2_with fail
  refine bodyPost_ret (v := i64 2) (by simp [results, Try.results23, go_sem]) rfl ⟨rfl, _, HS.out.own (((Keep.refl _ _).own 7 _).own 7 _), ((HT.out.set 7 (i64 5)).set 7 (i64 4) : IsObj _ b (taL t s so d who slot word 4 value true 2))⟩

set_option maxRecDepth 100000 in
set_option maxHeartbeats 1000000 in
theorem take_rest (next ph : Int) (lost : Bool) (hp : ph ≠ 0) (hT : IsObj w b (taL t s so d who slot word next value lost ph)) (hM : IsMem base w p c v C L) (ha : ¬ Foot p c v b) (hb : base ≤ w.heap.size) :
    Calls Try.prog 23 #[pt b, pt p] w (TaPost base w b p c v (taL t s so d who slot word next value lost ph) C L (.returned (i64 ph))) := by
  have HS := Lib.hid (Does.refl (B := (· = b)) hM (fun i hi => hi ▸ ha) hb)
  have c10 := hT.at' 10 _ rfl
  have hq : (ph != 0) = true := by simpa using hp
  have HT := Lib.hid hT
  clear hT hp hM ha
  go_enter Try.func23, Try.ntmps23
  go_wp2
  refine bodyPost_ret (v := i64 ph) (by simp [results, Try.results23, go_sem]) rfl ⟨rfl, _, HS.out, HT.out⟩

set_option maxRecDepth 100000 in
set_option maxHeartbeats 1000000 in
theorem tvalue_any (next ph : Int) (lost : Bool) (hT : IsObj w b (taL t s so d who slot word next value lost ph)) :
    Calls Try.prog 24 #[pt b] w fun r w' => r = .returned (u64 (if ph = 1 then value else 0)) ∧ w = w' := by
  have c10 := hT.at' 10 _ rfl
  have c8 := hT.at' 8 _ rfl
  clear hT
  by_cases h : ph = 1
  · rw [if_pos h]
    have hq : (ph != 1) = false := by simpa using h
    clear h
    go_enter Try.func24, Try.ntmps24
    go_wp2
    go_ret
    exact ⟨rfl, rfl⟩
  · rw [if_neg h]
    have hq : (ph != 1) = true := by simpa using h
    clear h
    go_enter Try.func24, Try.ntmps24
    go_wp2
    go_ret
    exact ⟨rfl, rfl⟩
set_option maxRecDepth 100000 in
set_option maxHeartbeats 1000000 in
theorem tanew_any :
    Calls Try.prog 22 #[cf t s so d, i64 who, i64 slot, u64 word] w fun r w' => ∃ b, r = .returned (pt b) ∧ IsObj w' b (taL t s so d who slot word 0 0 false 0) ∧ Below w.heap.size w w' ∧ w.heap.size ≤ b := by
  go_enter Try.func22, Try.ntmps22
  go_wp2
  go_ret
  have h := IsObj.made (w.alloc (.cells #[.int .i64 t, .int .i64 s, .int .i64 so, .int .i64 d] 27)) (taL t s so d who slot word 0 0 false 0) 90
  rw [show (w.alloc (.cells #[.int .i64 t, .int .i64 s, .int .i64 so, .int .i64 d] 27)).heap.size = w.heap.size + 1 by simp] at h
  exact ⟨_, rfl, h, below_new (below_new (Below.refl _ _) _) _, by simp⟩
end
end Go.Proofs.Yticphioeipbnmaa
