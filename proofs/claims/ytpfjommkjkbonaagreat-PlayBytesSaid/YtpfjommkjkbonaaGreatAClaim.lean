/-
  The contract of look of package claim. No condition but that numbers fit their kinds.
  Contracts of guard, Step, New, Most and what tells of a claim. No condition but that numbers fit their kinds.
  What the laws on claims have in common: what the call holds, the document's example, places as they are made. No condition.
  Plain lemmas on claims (as data): what is found, and after how many steps. No Go. No condition.
  Contracts of Cells and guarded of package stackyardlaw06. No condition but that the layout is right, and that lists are no longer than the laws let them be.
  What two laws on claims have in common: a claim beside other things, what a place found is. No condition.
  Plain lemmas on what a step of a stamp does. No condition.
  TickMost answers true for all numbers, and leaves all memory that was there as it was. No condition.
-/
import Derived.Test.YtpfjommkjkbonaaGreatATick
import Derived.Test.YtpfjommkjkbonaaGreatAMem
import Derived.Test.YtpfjommkjkbonaaGreatAKit
namespace Go.Proofs.YtpfjommkjkbonaaGreat
section
open Go.RowKit
set_option linter.unusedVariables false

section
variable (base : Nat) (w : World) (b p c : Nat) (v : Value) (C : List Int) (L : List Ev) (k : Cl) (n m : Int) (hz : Nat)

set_option maxHeartbeats 4000000 in
theorem look_0 (x : Int) (h4 : x / 8 % 8192 = 8191) (hk : k.Ok n m hz C) (j : Nat) (hsl : k.slot = (j : Int)) (hx : C[j]? = some x) (hT : IsObj w b k.list) (hM : IsMem base w p c v C L) (ha : ¬ Foot p c v b) (hb : base ≤ w.heap.size) (hL : L.length < 1000000000) :
    Calls Tryz.prog 98 #[pt b, pt p] w (ClPost base w b p c v (k.look m x) C (L ++ [⟨k.who, 0, j, x, x, true⟩]) (.returned (.tuple #[]))) := by
  obtain ⟨hl, hhz, hlen, w0, w1, hm, m0, m1, s0, s1, g0, g1⟩ := hk
  have hnx := hM.numAt hx
  have hU := fun W => unpack_any x W hnx.1 hnx.2
  have HS := Lib.hid (Does.refl (B := (· = b)) hM (fun i hi => hi ▸ ha) hb)
  have hA : AtHead w.drew b k.t k.s k.so k.d k.who k.slot := hT.drew.head
  unfold Cl.look Cl.word
  generalize x % 4 = xs at hU h4 ⊢
  generalize x / 4 % 2 = xe at hU h4 ⊢
  generalize x / 8 % 8192 = xg at hU h4 ⊢
  generalize x / 65536 % 16777216 = xl at hU h4 ⊢
  generalize x / 1099511627776 = xh at hU h4 ⊢
  have HU := Lib.hid hU
  have HT := Lib.hid hT
  have HX := Lib.hid hx
  have HP := Lib.hid (fun W (hW : IsObj W b { k with ws := xs, we := xe, wg := xg, wl := xl, wh := xh }.list) => pass_any W b { k with ws := xs, we := xe, wg := xg, wl := xl, wh := xh } n m hl w0 w1 hm m0 m1 s0 s1 hW)
  have HSL := Lib.hid hsl
  clear hU hT hx hM ha hm hhz hlen hsl
  have h := h4
  clear h4
  rw [if_pos h]
  have q1 : (xg == 8191) = true := by simp [h]
  clear h
  go_enter Tryz.func98, Tryz.ntmps98
  go_wp2_with fail
  refine wp_region_seqS ((fun w' => AtHead w' b k.t k.s k.so k.d k.who k.slot)) ((0, true) :: (1, true) :: (2, true) :: (3, true) :: (4, true) :: (5, true) :: (6, true) :: (7, true) :: (8, true) :: (9, true) :: (10, true) :: (11, true) :: (12, true) :: (13, true) :: (14, false) :: (15, false) :: (16, false) :: (17, true) :: (18, true) :: (19, false) :: []) (by kernel_rfl) (by kernel_rfl) (by kernel_rfl) (by decide) (fun _ _ _ _ _ h => h) (hA) ?_
  repeat (first | (refine seq_take (v := ?_) rfl ?_ ?_ ?_; rotate_left 1; rfl; (focus (intro wS hSw; obtain ⟨c0, c1, c2, c3, c4, c5⟩ := hSw; go_simp; first | done | with_reducible rfl)); (try simp only [Act.put, List.setIfInBounds_toArray, List.set_cons_zero, List.set_cons_succ])) | (refine seq_skip rfl ?_ ?_; rfl; (try simp only [Act.put, List.setIfInBounds_toArray, List.set_cons_zero, List.set_cons_succ])))
  refine seq_run rfl (fun K hK => ?_)
  go_simp
  go_at_call 92
  refine (cword_any _ _ _ _ _ _).mono ?_
  rintro r w1 ⟨rfl, hb1⟩
  (try go_wp2_with fail)
  replace HT := Lib.hid (HT.out.drew.later hb1)
  replace HS := Lib.hid (HS.out.drew.later hb1)
  clear hb1 hA
  refine hK.out _ _ (HT.out.head) (fun _ => ?_)
  (try simp only [Act.put, List.setIfInBounds_toArray, List.set_cons_zero, List.set_cons_succ])
  clear hK K
  repeat (first | (refine seq_take (v := ?_) rfl ?_ ?_ ?_; rotate_left 1; rfl; (focus (intro wS hSw; obtain ⟨c0, c1, c2, c3, c4, c5⟩ := hSw; go_simp; first | done | with_reducible rfl)); (try simp only [Act.put, List.setIfInBounds_toArray, List.set_cons_zero, List.set_cons_succ])) | (refine seq_skip rfl ?_ ?_; rfl; (try simp only [Act.put, List.setIfInBounds_toArray, List.set_cons_zero, List.set_cons_succ])))
  refine seq_run rfl (fun K hK => ?_)
  go_simp
  go_at_call 113
  refine (load_at base _ p c _ _ _ k.who _ j x HSL.out HS.out.mem HX.out HS.out.size hL).mono ?_
  rintro r w2 ⟨rfl, v2, hT2⟩
  (try go_wp2_with fail)
  have hlt1 := HT.out.lt
  replace HT := Lib.hid (HT.out.keep hT2.keep (HS.out.apart b rfl))
  replace HS := Lib.hid (HS.out.cells (fun i hi => hi ▸ hlt1) hT2)
  clear hT2
  refine hK.out _ _ (HT.out.head) (fun _ => ?_)
  (try simp only [Act.put, List.setIfInBounds_toArray, List.set_cons_zero, List.set_cons_succ])
  clear hK K
  repeat (first | (refine seq_take (v := ?_) rfl ?_ ?_ ?_; rotate_left 1; rfl; (focus (intro wS hSw; obtain ⟨c0, c1, c2, c3, c4, c5⟩ := hSw; go_simp; first | done | with_reducible rfl)); (try simp only [Act.put, List.setIfInBounds_toArray, List.set_cons_zero, List.set_cons_succ])) | (refine seq_skip rfl ?_ ?_; rfl; (try simp only [Act.put, List.setIfInBounds_toArray, List.set_cons_zero, List.set_cons_succ])))
  refine seq_run rfl (fun K hK => ?_)
  go_simp
  go_at_call 112
  refine (HU.out _).mono ?_
  rintro r w3 ⟨rfl, hb3⟩
  (try go_wp2_with fail)
  replace HT := Lib.hid (HT.out.later hb3)
  replace HS := Lib.hid (HS.out.later hb3)
  clear hb3
  refine hK.out _ _ (HT.out.head) (fun _ => ?_)
  (try simp only [Act.put, List.setIfInBounds_toArray, List.set_cons_zero, List.set_cons_succ])
  clear hK K
  obtain ⟨c0, c1, c2, c3, c4, c5, c6, c7, c8, c9, c10, c11, c12⟩ := HT.out.cl
  have f7 := HT.out.fz 7
  have f8 := HT.out.fz 8
  have f9 := HT.out.fz 9
  have f10 := HT.out.fz 10
  have f11 := HT.out.fz 11
  repeat (first | (refine seq_take (v := ?_) rfl ?_ ?_ ?_; rotate_left 1; rfl; (focus (intro wS hSw; obtain ⟨x0, x1, x2, x3, x4, x5⟩ := hSw; go_simp; first | done | with_reducible rfl)); (try simp only [Act.put, List.setIfInBounds_toArray, List.set_cons_zero, List.set_cons_succ])) | (refine seq_skip rfl ?_ ?_; rfl; (try simp only [Act.put, List.setIfInBounds_toArray, List.set_cons_zero, List.set_cons_succ])))
  refine seq_run rfl (fun K hK => ?_)
  go_simp
  have HT4 := Lib.hid (((((HT.out.set 7 (i64 xs)).set 8 (i64 xe)).set 9 (i64 xg)).set 10 (i64 xl)).set 11 (i64 xh))
  have HS4 := Lib.hid (HS.out.own ((((((Keep.refl _ _).own 7 (i64 xs)).own 8 (i64 xe)).own 9 (i64 xg)).own 10 (i64 xl)).own 11 (i64 xh)))
  clear c0 c1 c2 c3 c4 c5 c6 c7 c8 c9 c10 c11 c12 f7 f8 f9 f10 f11
  refine hK.out _ _ (HT4.out.head) (fun _ => ?_)
  (try simp only [Act.put, List.setIfInBounds_toArray, List.set_cons_zero, List.set_cons_succ])
  clear hK K
  refine seq_done ?_
  obtain ⟨c0, c1, c2, c3, c4, c5, c6, c7, c8, c9, c10, c11, c12⟩ := HT4.out.cl (k := { k with ws := xs, we := xe, wg := xg, wl := xl, wh := xh })
  go_wp2_with fail
  refine (HP.out _ HT4.out).mono ?_
  rintro r w5 ⟨rfl, hT5, hK5⟩
  go_wp2
  go_end0
  exact ⟨rfl, _, HS4.out.own hK5, hT5⟩

set_option maxHeartbeats 4000000 in
theorem look_1 (x : Int) (h4 : x / 8 % 8192 ≠ 8191 ∧ x % 4 = 0) (hk : k.Ok n m hz C) (j : Nat) (hsl : k.slot = (j : Int)) (hx : C[j]? = some x) (hT : IsObj w b k.list) (hM : IsMem base w p c v C L) (ha : ¬ Foot p c v b) (hb : base ≤ w.heap.size) (hL : L.length < 1000000000) :
    Calls Tryz.prog 98 #[pt b, pt p] w (ClPost base w b p c v (k.look m x) C (L ++ [⟨k.who, 0, j, x, x, true⟩]) (.returned (.tuple #[]))) := by
  obtain ⟨hl, hhz, hlen, w0, w1, hm, m0, m1, s0, s1, g0, g1⟩ := hk
  have hnx := hM.numAt hx
  have hU := fun W => unpack_any x W hnx.1 hnx.2
  have HS := Lib.hid (Does.refl (B := (· = b)) hM (fun i hi => hi ▸ ha) hb)
  have hA : AtHead w.drew b k.t k.s k.so k.d k.who k.slot := hT.drew.head
  unfold Cl.look Cl.word
  generalize x % 4 = xs at hU h4 ⊢
  generalize x / 4 % 2 = xe at hU h4 ⊢
  generalize x / 8 % 8192 = xg at hU h4 ⊢
  generalize x / 65536 % 16777216 = xl at hU h4 ⊢
  generalize x / 1099511627776 = xh at hU h4 ⊢
  have HU := Lib.hid hU
  have HT := Lib.hid hT
  have HX := Lib.hid hx
  have HP := Lib.hid (fun W (hW : IsObj W b { k with ws := xs, we := xe, wg := xg, wl := xl, wh := xh }.list) => pass_any W b { k with ws := xs, we := xe, wg := xg, wl := xl, wh := xh } n m hl w0 w1 hm m0 m1 s0 s1 hW)
  have HSL := Lib.hid hsl
  clear hU hT hx hM ha hm hhz hlen hsl
  obtain ⟨h, h'⟩ := h4
  rw [if_neg h, if_pos h']
  have q1 : (xg == 8191) = false := by simp [h]
  have q2 : (xs == 0) = true := by simp [h']
  clear h h'
  go_enter Tryz.func98, Tryz.ntmps98
  go_wp2_with fail
  refine wp_region_seqS ((fun w' => AtHead w' b k.t k.s k.so k.d k.who k.slot)) ((0, true) :: (1, true) :: (2, true) :: (3, true) :: (4, true) :: (5, true) :: (6, true) :: (7, true) :: (8, true) :: (9, true) :: (10, true) :: (11, true) :: (12, true) :: (13, true) :: (14, false) :: (15, false) :: (16, false) :: (17, true) :: (18, true) :: (19, false) :: []) (by kernel_rfl) (by kernel_rfl) (by kernel_rfl) (by decide) (fun _ _ _ _ _ h => h) (hA) ?_
  repeat (first | (refine seq_take (v := ?_) rfl ?_ ?_ ?_; rotate_left 1; rfl; (focus (intro wS hSw; obtain ⟨c0, c1, c2, c3, c4, c5⟩ := hSw; go_simp; first | done | with_reducible rfl)); (try simp only [Act.put, List.setIfInBounds_toArray, List.set_cons_zero, List.set_cons_succ])) | (refine seq_skip rfl ?_ ?_; rfl; (try simp only [Act.put, List.setIfInBounds_toArray, List.set_cons_zero, List.set_cons_succ])))
  refine seq_run rfl (fun K hK => ?_)
  go_simp
  go_at_call 92
  refine (cword_any _ _ _ _ _ _).mono ?_
  rintro r w1 ⟨rfl, hb1⟩
  (try go_wp2_with fail)
  replace HT := Lib.hid (HT.out.drew.later hb1)
  replace HS := Lib.hid (HS.out.drew.later hb1)
  clear hb1 hA
  refine hK.out _ _ (HT.out.head) (fun _ => ?_)
  (try simp only [Act.put, List.setIfInBounds_toArray, List.set_cons_zero, List.set_cons_succ])
  clear hK K
  repeat (first | (refine seq_take (v := ?_) rfl ?_ ?_ ?_; rotate_left 1; rfl; (focus (intro wS hSw; obtain ⟨c0, c1, c2, c3, c4, c5⟩ := hSw; go_simp; first | done | with_reducible rfl)); (try simp only [Act.put, List.setIfInBounds_toArray, List.set_cons_zero, List.set_cons_succ])) | (refine seq_skip rfl ?_ ?_; rfl; (try simp only [Act.put, List.setIfInBounds_toArray, List.set_cons_zero, List.set_cons_succ])))
  refine seq_run rfl (fun K hK => ?_)
  go_simp
  go_at_call 113
  refine (load_at base _ p c _ _ _ k.who _ j x HSL.out HS.out.mem HX.out HS.out.size hL).mono ?_
  rintro r w2 ⟨rfl, v2, hT2⟩
  (try go_wp2_with fail)
  have hlt1 := HT.out.lt
  replace HT := Lib.hid (HT.out.keep hT2.keep (HS.out.apart b rfl))
  replace HS := Lib.hid (HS.out.cells (fun i hi => hi ▸ hlt1) hT2)
  clear hT2
  refine hK.out _ _ (HT.out.head) (fun _ => ?_)
  (try simp only [Act.put, List.setIfInBounds_toArray, List.set_cons_zero, List.set_cons_succ])
  clear hK K
  repeat (first | (refine seq_take (v := ?_) rfl ?_ ?_ ?_; rotate_left 1; rfl; (focus (intro wS hSw; obtain ⟨c0, c1, c2, c3, c4, c5⟩ := hSw; go_simp; first | done | with_reducible rfl)); (try simp only [Act.put, List.setIfInBounds_toArray, List.set_cons_zero, List.set_cons_succ])) | (refine seq_skip rfl ?_ ?_; rfl; (try simp only [Act.put, List.setIfInBounds_toArray, List.set_cons_zero, List.set_cons_succ])))
  refine seq_run rfl (fun K hK => ?_)
  go_simp
  go_at_call 112
  refine (HU.out _).mono ?_
  rintro r w3 ⟨rfl, hb3⟩
  (try go_wp2_with fail)
  replace HT := Lib.hid (HT.out.later hb3)
  replace HS := Lib.hid (HS.out.later hb3)
  clear hb3
  refine hK.out _ _ (HT.out.head) (fun _ => ?_)
  (try simp only [Act.put, List.setIfInBounds_toArray, List.set_cons_zero, List.set_cons_succ])
  clear hK K
  obtain ⟨c0, c1, c2, c3, c4, c5, c6, c7, c8, c9, c10, c11, c12⟩ := HT.out.cl
  have f7 := HT.out.fz 7
  have f8 := HT.out.fz 8
  have f9 := HT.out.fz 9
  have f10 := HT.out.fz 10
  have f11 := HT.out.fz 11
  repeat (first | (refine seq_take (v := ?_) rfl ?_ ?_ ?_; rotate_left 1; rfl; (focus (intro wS hSw; obtain ⟨x0, x1, x2, x3, x4, x5⟩ := hSw; go_simp; first | done | with_reducible rfl)); (try simp only [Act.put, List.setIfInBounds_toArray, List.set_cons_zero, List.set_cons_succ])) | (refine seq_skip rfl ?_ ?_; rfl; (try simp only [Act.put, List.setIfInBounds_toArray, List.set_cons_zero, List.set_cons_succ])))
  refine seq_run rfl (fun K hK => ?_)
  go_simp
  have HT4 := Lib.hid (((((HT.out.set 7 (i64 xs)).set 8 (i64 xe)).set 9 (i64 xg)).set 10 (i64 xl)).set 11 (i64 xh))
  have HS4 := Lib.hid (HS.out.own ((((((Keep.refl _ _).own 7 (i64 xs)).own 8 (i64 xe)).own 9 (i64 xg)).own 10 (i64 xl)).own 11 (i64 xh)))
  clear c0 c1 c2 c3 c4 c5 c6 c7 c8 c9 c10 c11 c12 f7 f8 f9 f10 f11
  refine hK.out _ _ (HT4.out.head) (fun _ => ?_)
  (try simp only [Act.put, List.setIfInBounds_toArray, List.set_cons_zero, List.set_cons_succ])
  clear hK K
  refine seq_done ?_
  obtain ⟨c0, c1, c2, c3, c4, c5, c6, c7, c8, c9, c10, c11, c12⟩ := HT4.out.cl (k := { k with ws := xs, we := xe, wg := xg, wl := xl, wh := xh })
  have ff := HT4.out.fz 12
  go_wp2
  go_end0
  exact ⟨rfl, _, HS4.out.own ((Keep.refl _ _).own 12 _), HT4.out.set 12 (.int .i64 1)⟩

set_option maxHeartbeats 4000000 in
theorem look_2 (x : Int) (h4 : x / 8 % 8192 ≠ 8191 ∧ x % 4 ≠ 0 ∧ x % 4 = 2) (hk : k.Ok n m hz C) (j : Nat) (hsl : k.slot = (j : Int)) (hx : C[j]? = some x) (hT : IsObj w b k.list) (hM : IsMem base w p c v C L) (ha : ¬ Foot p c v b) (hb : base ≤ w.heap.size) (hL : L.length < 1000000000) :
    Calls Tryz.prog 98 #[pt b, pt p] w (ClPost base w b p c v (k.look m x) C (L ++ [⟨k.who, 0, j, x, x, true⟩]) (.returned (.tuple #[]))) := by
  obtain ⟨hl, hhz, hlen, w0, w1, hm, m0, m1, s0, s1, g0, g1⟩ := hk
  have hnx := hM.numAt hx
  have hU := fun W => unpack_any x W hnx.1 hnx.2
  have HS := Lib.hid (Does.refl (B := (· = b)) hM (fun i hi => hi ▸ ha) hb)
  have hA : AtHead w.drew b k.t k.s k.so k.d k.who k.slot := hT.drew.head
  unfold Cl.look Cl.word
  generalize x % 4 = xs at hU h4 ⊢
  generalize x / 4 % 2 = xe at hU h4 ⊢
  generalize x / 8 % 8192 = xg at hU h4 ⊢
  generalize x / 65536 % 16777216 = xl at hU h4 ⊢
  generalize x / 1099511627776 = xh at hU h4 ⊢
  have HU := Lib.hid hU
  have HT := Lib.hid hT
  have HX := Lib.hid hx
  have HP := Lib.hid (fun W (hW : IsObj W b { k with ws := xs, we := xe, wg := xg, wl := xl, wh := xh }.list) => pass_any W b { k with ws := xs, we := xe, wg := xg, wl := xl, wh := xh } n m hl w0 w1 hm m0 m1 s0 s1 hW)
  have HSL := Lib.hid hsl
  clear hU hT hx hM ha hm hhz hlen hsl
  obtain ⟨h, h', h2⟩ := h4
  rw [if_neg h, if_neg h', if_pos h2]
  have q1 : (xg == 8191) = false := by simp [h]
  have q2 : (xs == 0) = false := by simp [h']
  have q3 : (xs == 2) = true := by simp [h2]
  clear h h' h2
  go_enter Tryz.func98, Tryz.ntmps98
  go_wp2_with fail
  refine wp_region_seqS ((fun w' => AtHead w' b k.t k.s k.so k.d k.who k.slot)) ((0, true) :: (1, true) :: (2, true) :: (3, true) :: (4, true) :: (5, true) :: (6, true) :: (7, true) :: (8, true) :: (9, true) :: (10, true) :: (11, true) :: (12, true) :: (13, true) :: (14, false) :: (15, false) :: (16, false) :: (17, true) :: (18, true) :: (19, false) :: []) (by kernel_rfl) (by kernel_rfl) (by kernel_rfl) (by decide) (fun _ _ _ _ _ h => h) (hA) ?_
  repeat (first | (refine seq_take (v := ?_) rfl ?_ ?_ ?_; rotate_left 1; rfl; (focus (intro wS hSw; obtain ⟨c0, c1, c2, c3, c4, c5⟩ := hSw; go_simp; first | done | with_reducible rfl)); (try simp only [Act.put, List.setIfInBounds_toArray, List.set_cons_zero, List.set_cons_succ])) | (refine seq_skip rfl ?_ ?_; rfl; (try simp only [Act.put, List.setIfInBounds_toArray, List.set_cons_zero, List.set_cons_succ])))
  refine seq_run rfl (fun K hK => ?_)
  go_simp
  go_at_call 92
  refine (cword_any _ _ _ _ _ _).mono ?_
  rintro r w1 ⟨rfl, hb1⟩
  (try go_wp2_with fail)
  replace HT := Lib.hid (HT.out.drew.later hb1)
  replace HS := Lib.hid (HS.out.drew.later hb1)
  clear hb1 hA
  refine hK.out _ _ (HT.out.head) (fun _ => ?_)
  (try simp only [Act.put, List.setIfInBounds_toArray, List.set_cons_zero, List.set_cons_succ])
  clear hK K
  repeat (first | (refine seq_take (v := ?_) rfl ?_ ?_ ?_; rotate_left 1; rfl; (focus (intro wS hSw; obtain ⟨c0, c1, c2, c3, c4, c5⟩ := hSw; go_simp; first | done | with_reducible rfl)); (try simp only [Act.put, List.setIfInBounds_toArray, List.set_cons_zero, List.set_cons_succ])) | (refine seq_skip rfl ?_ ?_; rfl; (try simp only [Act.put, List.setIfInBounds_toArray, List.set_cons_zero, List.set_cons_succ])))
  refine seq_run rfl (fun K hK => ?_)
  go_simp
  go_at_call 113
  refine (load_at base _ p c _ _ _ k.who _ j x HSL.out HS.out.mem HX.out HS.out.size hL).mono ?_
  rintro r w2 ⟨rfl, v2, hT2⟩
  (try go_wp2_with fail)
  have hlt1 := HT.out.lt
  replace HT := Lib.hid (HT.out.keep hT2.keep (HS.out.apart b rfl))
  replace HS := Lib.hid (HS.out.cells (fun i hi => hi ▸ hlt1) hT2)
  clear hT2
  refine hK.out _ _ (HT.out.head) (fun _ => ?_)
  (try simp only [Act.put, List.setIfInBounds_toArray, List.set_cons_zero, List.set_cons_succ])
  clear hK K
  repeat (first | (refine seq_take (v := ?_) rfl ?_ ?_ ?_; rotate_left 1; rfl; (focus (intro wS hSw; obtain ⟨c0, c1, c2, c3, c4, c5⟩ := hSw; go_simp; first | done | with_reducible rfl)); (try simp only [Act.put, List.setIfInBounds_toArray, List.set_cons_zero, List.set_cons_succ])) | (refine seq_skip rfl ?_ ?_; rfl; (try simp only [Act.put, List.setIfInBounds_toArray, List.set_cons_zero, List.set_cons_succ])))
  refine seq_run rfl (fun K hK => ?_)
  go_simp
  go_at_call 112
  refine (HU.out _).mono ?_
  rintro r w3 ⟨rfl, hb3⟩
  (try go_wp2_with fail)
  replace HT := Lib.hid (HT.out.later hb3)
  replace HS := Lib.hid (HS.out.later hb3)
  clear hb3
  refine hK.out _ _ (HT.out.head) (fun _ => ?_)
  (try simp only [Act.put, List.setIfInBounds_toArray, List.set_cons_zero, List.set_cons_succ])
  clear hK K
  obtain ⟨c0, c1, c2, c3, c4, c5, c6, c7, c8, c9, c10, c11, c12⟩ := HT.out.cl
  have f7 := HT.out.fz 7
  have f8 := HT.out.fz 8
  have f9 := HT.out.fz 9
  have f10 := HT.out.fz 10
  have f11 := HT.out.fz 11
  repeat (first | (refine seq_take (v := ?_) rfl ?_ ?_ ?_; rotate_left 1; rfl; (focus (intro wS hSw; obtain ⟨x0, x1, x2, x3, x4, x5⟩ := hSw; go_simp; first | done | with_reducible rfl)); (try simp only [Act.put, List.setIfInBounds_toArray, List.set_cons_zero, List.set_cons_succ])) | (refine seq_skip rfl ?_ ?_; rfl; (try simp only [Act.put, List.setIfInBounds_toArray, List.set_cons_zero, List.set_cons_succ])))
  refine seq_run rfl (fun K hK => ?_)
  go_simp
  have HT4 := Lib.hid (((((HT.out.set 7 (i64 xs)).set 8 (i64 xe)).set 9 (i64 xg)).set 10 (i64 xl)).set 11 (i64 xh))
  have HS4 := Lib.hid (HS.out.own ((((((Keep.refl _ _).own 7 (i64 xs)).own 8 (i64 xe)).own 9 (i64 xg)).own 10 (i64 xl)).own 11 (i64 xh)))
  clear c0 c1 c2 c3 c4 c5 c6 c7 c8 c9 c10 c11 c12 f7 f8 f9 f10 f11
  refine hK.out _ _ (HT4.out.head) (fun _ => ?_)
  (try simp only [Act.put, List.setIfInBounds_toArray, List.set_cons_zero, List.set_cons_succ])
  clear hK K
  refine seq_done ?_
  obtain ⟨c0, c1, c2, c3, c4, c5, c6, c7, c8, c9, c10, c11, c12⟩ := HT4.out.cl (k := { k with ws := xs, we := xe, wg := xg, wl := xl, wh := xh })
  have ff := HT4.out.fz 6
  go_wp2
  go_end0
  exact ⟨rfl, _, HS4.out.own ((Keep.refl _ _).own 6 _), HT4.out.set 6 (.int .i64 1)⟩

set_option maxHeartbeats 4000000 in
theorem look_3 (x : Int) (h4 : x / 8 % 8192 ≠ 8191 ∧ x % 4 ≠ 0 ∧ x % 4 ≠ 2) (hk : k.Ok n m hz C) (j : Nat) (hsl : k.slot = (j : Int)) (hx : C[j]? = some x) (hT : IsObj w b k.list) (hM : IsMem base w p c v C L) (ha : ¬ Foot p c v b) (hb : base ≤ w.heap.size) (hL : L.length < 1000000000) :
    Calls Tryz.prog 98 #[pt b, pt p] w (ClPost base w b p c v (k.look m x) C (L ++ [⟨k.who, 0, j, x, x, true⟩]) (.returned (.tuple #[]))) := by
  obtain ⟨hl, hhz, hlen, w0, w1, hm, m0, m1, s0, s1, g0, g1⟩ := hk
  have hnx := hM.numAt hx
  have hU := fun W => unpack_any x W hnx.1 hnx.2
  have HS := Lib.hid (Does.refl (B := (· = b)) hM (fun i hi => hi ▸ ha) hb)
  have hA : AtHead w.drew b k.t k.s k.so k.d k.who k.slot := hT.drew.head
  unfold Cl.look Cl.word
  generalize x % 4 = xs at hU h4 ⊢
  generalize x / 4 % 2 = xe at hU h4 ⊢
  generalize x / 8 % 8192 = xg at hU h4 ⊢
  generalize x / 65536 % 16777216 = xl at hU h4 ⊢
  generalize x / 1099511627776 = xh at hU h4 ⊢
  have HU := Lib.hid hU
  have HT := Lib.hid hT
  have HX := Lib.hid hx
  have HP := Lib.hid (fun W (hW : IsObj W b { k with ws := xs, we := xe, wg := xg, wl := xl, wh := xh }.list) => pass_any W b { k with ws := xs, we := xe, wg := xg, wl := xl, wh := xh } n m hl w0 w1 hm m0 m1 s0 s1 hW)
  have HSL := Lib.hid hsl
  clear hU hT hx hM ha hm hhz hlen hsl
  obtain ⟨h, h', h2⟩ := h4
  rw [if_neg h, if_neg h', if_neg h2]
  have q1 : (xg == 8191) = false := by simp [h]
  have q2 : (xs == 0) = false := by simp [h']
  have q3 : (xs == 2) = false := by simp [h2]
  clear h h' h2
  go_enter Tryz.func98, Tryz.ntmps98
  go_wp2_with fail
  refine wp_region_seqS ((fun w' => AtHead w' b k.t k.s k.so k.d k.who k.slot)) ((0, true) :: (1, true) :: (2, true) :: (3, true) :: (4, true) :: (5, true) :: (6, true) :: (7, true) :: (8, true) :: (9, true) :: (10, true) :: (11, true) :: (12, true) :: (13, true) :: (14, false) :: (15, false) :: (16, false) :: (17, true) :: (18, true) :: (19, false) :: []) (by kernel_rfl) (by kernel_rfl) (by kernel_rfl) (by decide) (fun _ _ _ _ _ h => h) (hA) ?_
  repeat (first | (refine seq_take (v := ?_) rfl ?_ ?_ ?_; rotate_left 1; rfl; (focus (intro wS hSw; obtain ⟨c0, c1, c2, c3, c4, c5⟩ := hSw; go_simp; first | done | with_reducible rfl)); (try simp only [Act.put, List.setIfInBounds_toArray, List.set_cons_zero, List.set_cons_succ])) | (refine seq_skip rfl ?_ ?_; rfl; (try simp only [Act.put, List.setIfInBounds_toArray, List.set_cons_zero, List.set_cons_succ])))
  refine seq_run rfl (fun K hK => ?_)
  go_simp
  go_at_call 92
  refine (cword_any _ _ _ _ _ _).mono ?_
  rintro r w1 ⟨rfl, hb1⟩
  (try go_wp2_with fail)
  replace HT := Lib.hid (HT.out.drew.later hb1)
  replace HS := Lib.hid (HS.out.drew.later hb1)
  clear hb1 hA
  refine hK.out _ _ (HT.out.head) (fun _ => ?_)
  (try simp only [Act.put, List.setIfInBounds_toArray, List.set_cons_zero, List.set_cons_succ])
  clear hK K
  repeat (first | (refine seq_take (v := ?_) rfl ?_ ?_ ?_; rotate_left 1; rfl; (focus (intro wS hSw; obtain ⟨c0, c1, c2, c3, c4, c5⟩ := hSw; go_simp; first | done | with_reducible rfl)); (try simp only [Act.put, List.setIfInBounds_toArray, List.set_cons_zero, List.set_cons_succ])) | (refine seq_skip rfl ?_ ?_; rfl; (try simp only [Act.put, List.setIfInBounds_toArray, List.set_cons_zero, List.set_cons_succ])))
  refine seq_run rfl (fun K hK => ?_)
  go_simp
  go_at_call 113
  refine (load_at base _ p c _ _ _ k.who _ j x HSL.out HS.out.mem HX.out HS.out.size hL).mono ?_
  rintro r w2 ⟨rfl, v2, hT2⟩
  (try go_wp2_with fail)
  have hlt1 := HT.out.lt
  replace HT := Lib.hid (HT.out.keep hT2.keep (HS.out.apart b rfl))
  replace HS := Lib.hid (HS.out.cells (fun i hi => hi ▸ hlt1) hT2)
  clear hT2
  refine hK.out _ _ (HT.out.head) (fun _ => ?_)
  (try simp only [Act.put, List.setIfInBounds_toArray, List.set_cons_zero, List.set_cons_succ])
  clear hK K
  repeat (first | (refine seq_take (v := ?_) rfl ?_ ?_ ?_; rotate_left 1; rfl; (focus (intro wS hSw; obtain ⟨c0, c1, c2, c3, c4, c5⟩ := hSw; go_simp; first | done | with_reducible rfl)); (try simp only [Act.put, List.setIfInBounds_toArray, List.set_cons_zero, List.set_cons_succ])) | (refine seq_skip rfl ?_ ?_; rfl; (try simp only [Act.put, List.setIfInBounds_toArray, List.set_cons_zero, List.set_cons_succ])))
  refine seq_run rfl (fun K hK => ?_)
  go_simp
  go_at_call 112
  refine (HU.out _).mono ?_
  rintro r w3 ⟨rfl, hb3⟩
  (try go_wp2_with fail)
  replace HT := Lib.hid (HT.out.later hb3)
  replace HS := Lib.hid (HS.out.later hb3)
  clear hb3
  refine hK.out _ _ (HT.out.head) (fun _ => ?_)
  (try simp only [Act.put, List.setIfInBounds_toArray, List.set_cons_zero, List.set_cons_succ])
  clear hK K
  obtain ⟨c0, c1, c2, c3, c4, c5, c6, c7, c8, c9, c10, c11, c12⟩ := HT.out.cl
  have f7 := HT.out.fz 7
  have f8 := HT.out.fz 8
  have f9 := HT.out.fz 9
  have f10 := HT.out.fz 10
  have f11 := HT.out.fz 11
  repeat (first | (refine seq_take (v := ?_) rfl ?_ ?_ ?_; rotate_left 1; rfl; (focus (intro wS hSw; obtain ⟨x0, x1, x2, x3, x4, x5⟩ := hSw; go_simp; first | done | with_reducible rfl)); (try simp only [Act.put, List.setIfInBounds_toArray, List.set_cons_zero, List.set_cons_succ])) | (refine seq_skip rfl ?_ ?_; rfl; (try simp only [Act.put, List.setIfInBounds_toArray, List.set_cons_zero, List.set_cons_succ])))
  refine seq_run rfl (fun K hK => ?_)
  go_simp
  have HT4 := Lib.hid (((((HT.out.set 7 (i64 xs)).set 8 (i64 xe)).set 9 (i64 xg)).set 10 (i64 xl)).set 11 (i64 xh))
  have HS4 := Lib.hid (HS.out.own ((((((Keep.refl _ _).own 7 (i64 xs)).own 8 (i64 xe)).own 9 (i64 xg)).own 10 (i64 xl)).own 11 (i64 xh)))
  clear c0 c1 c2 c3 c4 c5 c6 c7 c8 c9 c10 c11 c12 f7 f8 f9 f10 f11
  refine hK.out _ _ (HT4.out.head) (fun _ => ?_)
  (try simp only [Act.put, List.setIfInBounds_toArray, List.set_cons_zero, List.set_cons_succ])
  clear hK K
  refine seq_done ?_
  obtain ⟨c0, c1, c2, c3, c4, c5, c6, c7, c8, c9, c10, c11, c12⟩ := HT4.out.cl (k := { k with ws := xs, we := xe, wg := xg, wl := xl, wh := xh })
  go_wp2_with fail
  refine (HP.out _ HT4.out).mono ?_
  rintro r w5 ⟨rfl, hT5, hK5⟩
  go_wp2
  go_end0
  exact ⟨rfl, _, HS4.out.own hK5, hT5⟩

end
end

section
open Go.RowKit
set_option linter.unusedVariables false

section
variable (base : Nat) (w : World) (b p c : Nat) (v : Value) (C : List Int) (L : List Ev) (k : Cl) (n m : Int) (hz : Nat)

theorem chazard_at (t s so d n i : Int) (j : Nat) (w : World) (h : Lay t s n) (i0 : 0 ≤ i) (i1 : i ≤ t) (hj : 2 * n + i = (j : Int)) :
    Calls Tryz.prog 115 #[cf t s so d, i64 i] w fun r w' => r = .returned (i64 j) ∧ Below w.heap.size w w' := by
  rw [← hj]
  exact chazard_any t s so d n i w h i0 i1

set_option maxHeartbeats 4000000 in
theorem guard_0 (x : Int) (h4 : x = k.slot + 1) (hk : k.Ok n m hz C) (hs : 1 ≤ k.steps) (j : Nat) (hsl : 2 * n + (k.steps - 1) = (j : Int)) (hx : C[j]? = some x) (hT : IsObj w b k.list) (hM : IsMem base w p c v C L) (ha : ¬ Foot p c v b) (hb : base ≤ w.heap.size) (hL : L.length < 1000000000) :
    Calls Tryz.prog 99 #[pt b, pt p, i64 (k.steps - 1)] w (ClPost base w b p c v (k.guard m x) C (L ++ [⟨k.who, 0, j, x, x, true⟩]) (.returned (.tuple #[]))) := by
  obtain ⟨hl, hhz, hlen, w0, w1, hm, m0, m1, s0, s1, g0, g1⟩ := hk
  have hn1 := hl.n1; have hn2 := hl.n2; have ht1 := hl.t1; have ht2 := hl.t2
  have HS := Lib.hid (Does.refl (B := (· = b)) hM (fun i hi => hi ▸ ha) hb)
  have hA : AtHead w.drew b k.t k.s k.so k.d k.who k.slot := hT.drew.head
  have hu1 : IntKind.u64.wrap k.slot = k.slot := by rw [IntKind.wrap_u64]; omega
  have hu2 : IntKind.u64.wrap (k.slot + 1) = k.slot + 1 := by rw [IntKind.wrap_u64]; omega
  have HT := Lib.hid hT
  have HX := Lib.hid hx
  have HP := Lib.hid (fun W (hW : IsObj W b k.list) => pass_any W b k n m hl w0 w1 hm m0 m1 s0 s1 hW)
  have HSL := Lib.hid hsl
  unfold Cl.guard
  rw [if_pos h4]
  have q1 : (x == k.slot + 1) = true := by simp [h4]
  clear h4
  clear hT hx hM ha hm hhz hlen hsl
  go_enter Tryz.func99, Tryz.ntmps99
  go_wp2_with fail
  refine wp_region_seqS ((fun w' => AtHead w' b k.t k.s k.so k.d k.who k.slot)) ((0, true) :: (1, true) :: (2, true) :: (3, true) :: (4, true) :: (5, true) :: (6, true) :: (7, true) :: (8, true) :: (9, true) :: (12, true) :: (13, true) :: (14, true) :: (15, true) :: (16, true) :: (17, true) :: (10, false) :: (11, false) :: (18, true) :: []) (by kernel_rfl) (by kernel_rfl) (by kernel_rfl) (by decide) (fun _ _ _ _ _ h => h) (hA) ?_
  repeat (first | (refine seq_take (v := ?_) rfl ?_ ?_ ?_; rotate_left 1; rfl; (focus (intro wS hSw; obtain ⟨c0, c1, c2, c3, c4, c5⟩ := hSw; go_simp; first | done | with_reducible rfl)); (try simp only [Act.put, List.setIfInBounds_toArray, List.set_cons_zero, List.set_cons_succ])) | (refine seq_skip rfl ?_ ?_; rfl; (try simp only [Act.put, List.setIfInBounds_toArray, List.set_cons_zero, List.set_cons_succ])))
  refine seq_run rfl (fun K hK => ?_)
  go_simp
  go_at_call 115
  refine (chazard_at _ _ _ _ n _ j _ hl (by omega) (by omega) HSL.out).mono ?_
  rintro r w1 ⟨rfl, hb1⟩
  (try go_wp2_with fail)
  replace HT := Lib.hid (HT.out.drew.later hb1)
  replace HS := Lib.hid (HS.out.drew.later hb1)
  clear hb1 hA
  refine hK.out _ _ (HT.out.head) (fun _ => ?_)
  (try simp only [Act.put, List.setIfInBounds_toArray, List.set_cons_zero, List.set_cons_succ])
  clear hK K
  repeat (first | (refine seq_take (v := ?_) rfl ?_ ?_ ?_; rotate_left 1; rfl; (focus (intro wS hSw; obtain ⟨c0, c1, c2, c3, c4, c5⟩ := hSw; go_simp; first | done | with_reducible rfl)); (try simp only [Act.put, List.setIfInBounds_toArray, List.set_cons_zero, List.set_cons_succ])) | (refine seq_skip rfl ?_ ?_; rfl; (try simp only [Act.put, List.setIfInBounds_toArray, List.set_cons_zero, List.set_cons_succ])))
  refine seq_run rfl (fun K hK => ?_)
  go_simp
  go_at_call 113
  refine (load_in base _ p c _ _ _ k.who j x HS.out.mem HX.out HS.out.size hL).mono ?_
  rintro r w2 ⟨rfl, v2, hT2⟩
  (try go_wp2_with fail)
  have hlt1 := HT.out.lt
  replace HT := Lib.hid (HT.out.keep hT2.keep (HS.out.apart b rfl))
  replace HS := Lib.hid (HS.out.cells (fun i hi => hi ▸ hlt1) hT2)
  clear hT2
  refine hK.out _ _ (HT.out.head) (fun _ => ?_)
  (try simp only [Act.put, List.setIfInBounds_toArray, List.set_cons_zero, List.set_cons_succ])
  clear hK K
  repeat (first | (refine seq_take (v := ?_) rfl ?_ ?_ ?_; rotate_left 1; rfl; (focus (intro wS hSw; obtain ⟨c0, c1, c2, c3, c4, c5⟩ := hSw; go_simp; first | done | with_reducible rfl)); (try simp only [Act.put, List.setIfInBounds_toArray, List.set_cons_zero, List.set_cons_succ])) | (refine seq_skip rfl ?_ ?_; rfl; (try simp only [Act.put, List.setIfInBounds_toArray, List.set_cons_zero, List.set_cons_succ])))
  refine seq_done ?_
  go_wp2_with fail
  refine (HP.out _ HT.out).mono ?_
  rintro r w5 ⟨rfl, hT5, hK5⟩
  go_wp2
  refine bodyPost_ret (results_none rfl _ _ _) rfl ?_
  exact ⟨rfl, _, HS.out.own hK5, hT5⟩

set_option maxHeartbeats 4000000 in
theorem guard_1 (x : Int) (h4 : x ≠ k.slot + 1 ∧ k.steps = k.t) (hk : k.Ok n m hz C) (hs : 1 ≤ k.steps) (j : Nat) (hsl : 2 * n + (k.steps - 1) = (j : Int)) (hx : C[j]? = some x) (hT : IsObj w b k.list) (hM : IsMem base w p c v C L) (ha : ¬ Foot p c v b) (hb : base ≤ w.heap.size) (hL : L.length < 1000000000) :
    Calls Tryz.prog 99 #[pt b, pt p, i64 (k.steps - 1)] w (ClPost base w b p c v (k.guard m x) C (L ++ [⟨k.who, 0, j, x, x, true⟩]) (.returned (.tuple #[]))) := by
  obtain ⟨hl, hhz, hlen, w0, w1, hm, m0, m1, s0, s1, g0, g1⟩ := hk
  have hn1 := hl.n1; have hn2 := hl.n2; have ht1 := hl.t1; have ht2 := hl.t2
  have HS := Lib.hid (Does.refl (B := (· = b)) hM (fun i hi => hi ▸ ha) hb)
  have hA : AtHead w.drew b k.t k.s k.so k.d k.who k.slot := hT.drew.head
  have hu1 : IntKind.u64.wrap k.slot = k.slot := by rw [IntKind.wrap_u64]; omega
  have hu2 : IntKind.u64.wrap (k.slot + 1) = k.slot + 1 := by rw [IntKind.wrap_u64]; omega
  have HT := Lib.hid hT
  have HX := Lib.hid hx
  have HP := Lib.hid (fun W (hW : IsObj W b k.list) => pass_any W b k n m hl w0 w1 hm m0 m1 s0 s1 hW)
  have HSL := Lib.hid hsl
  unfold Cl.guard
  obtain ⟨h1, h2⟩ := h4
  rw [if_neg h1, if_pos h2]
  have q1 : (x == k.slot + 1) = false := by simp [h1]
  have q2 : (k.steps - 1 == k.t - 1) = true := by simp; omega
  clear h1 h2
  clear hT hx hM ha hm hhz hlen hsl
  go_enter Tryz.func99, Tryz.ntmps99
  go_wp2_with fail
  refine wp_region_seqS ((fun w' => AtHead w' b k.t k.s k.so k.d k.who k.slot)) ((0, true) :: (1, true) :: (2, true) :: (3, true) :: (4, true) :: (5, true) :: (6, true) :: (7, true) :: (8, true) :: (9, true) :: (12, true) :: (13, true) :: (14, true) :: (15, true) :: (16, true) :: (17, true) :: (10, false) :: (11, false) :: (18, true) :: []) (by kernel_rfl) (by kernel_rfl) (by kernel_rfl) (by decide) (fun _ _ _ _ _ h => h) (hA) ?_
  repeat (first | (refine seq_take (v := ?_) rfl ?_ ?_ ?_; rotate_left 1; rfl; (focus (intro wS hSw; obtain ⟨c0, c1, c2, c3, c4, c5⟩ := hSw; go_simp; first | done | with_reducible rfl)); (try simp only [Act.put, List.setIfInBounds_toArray, List.set_cons_zero, List.set_cons_succ])) | (refine seq_skip rfl ?_ ?_; rfl; (try simp only [Act.put, List.setIfInBounds_toArray, List.set_cons_zero, List.set_cons_succ])))
  refine seq_run rfl (fun K hK => ?_)
  go_simp
  go_at_call 115
  refine (chazard_at _ _ _ _ n _ j _ hl (by omega) (by omega) HSL.out).mono ?_
  rintro r w1 ⟨rfl, hb1⟩
  (try go_wp2_with fail)
  replace HT := Lib.hid (HT.out.drew.later hb1)
  replace HS := Lib.hid (HS.out.drew.later hb1)
  clear hb1 hA
  refine hK.out _ _ (HT.out.head) (fun _ => ?_)
  (try simp only [Act.put, List.setIfInBounds_toArray, List.set_cons_zero, List.set_cons_succ])
  clear hK K
  repeat (first | (refine seq_take (v := ?_) rfl ?_ ?_ ?_; rotate_left 1; rfl; (focus (intro wS hSw; obtain ⟨c0, c1, c2, c3, c4, c5⟩ := hSw; go_simp; first | done | with_reducible rfl)); (try simp only [Act.put, List.setIfInBounds_toArray, List.set_cons_zero, List.set_cons_succ])) | (refine seq_skip rfl ?_ ?_; rfl; (try simp only [Act.put, List.setIfInBounds_toArray, List.set_cons_zero, List.set_cons_succ])))
  refine seq_run rfl (fun K hK => ?_)
  go_simp
  go_at_call 113
  refine (load_in base _ p c _ _ _ k.who j x HS.out.mem HX.out HS.out.size hL).mono ?_
  rintro r w2 ⟨rfl, v2, hT2⟩
  (try go_wp2_with fail)
  have hlt1 := HT.out.lt
  replace HT := Lib.hid (HT.out.keep hT2.keep (HS.out.apart b rfl))
  replace HS := Lib.hid (HS.out.cells (fun i hi => hi ▸ hlt1) hT2)
  clear hT2
  refine hK.out _ _ (HT.out.head) (fun _ => ?_)
  (try simp only [Act.put, List.setIfInBounds_toArray, List.set_cons_zero, List.set_cons_succ])
  clear hK K
  repeat (first | (refine seq_take (v := ?_) rfl ?_ ?_ ?_; rotate_left 1; rfl; (focus (intro wS hSw; obtain ⟨c0, c1, c2, c3, c4, c5⟩ := hSw; go_simp; first | done | with_reducible rfl)); (try simp only [Act.put, List.setIfInBounds_toArray, List.set_cons_zero, List.set_cons_succ])) | (refine seq_skip rfl ?_ ?_; rfl; (try simp only [Act.put, List.setIfInBounds_toArray, List.set_cons_zero, List.set_cons_succ])))
  refine seq_done ?_
  obtain ⟨c0, c1, c2, c3, c4, c5, c6, c7, c8, c9, c10, c11, c12⟩ := HT.out.cl
  have ff := HT.out.fz 12
  go_wp2
  refine bodyPost_ret (results_none rfl _ _ _) rfl ?_
  exact ⟨rfl, _, HS.out.own ((Keep.refl _ _).own 12 _), HT.out.set 12 (.int .i64 1)⟩

set_option maxHeartbeats 4000000 in
theorem guard_2 (x : Int) (h4 : x ≠ k.slot + 1 ∧ ¬ k.steps = k.t) (hk : k.Ok n m hz C) (hs : 1 ≤ k.steps) (j : Nat) (hsl : 2 * n + (k.steps - 1) = (j : Int)) (hx : C[j]? = some x) (hT : IsObj w b k.list) (hM : IsMem base w p c v C L) (ha : ¬ Foot p c v b) (hb : base ≤ w.heap.size) (hL : L.length < 1000000000) :
    Calls Tryz.prog 99 #[pt b, pt p, i64 (k.steps - 1)] w (ClPost base w b p c v (k.guard m x) C (L ++ [⟨k.who, 0, j, x, x, true⟩]) (.returned (.tuple #[]))) := by
  obtain ⟨hl, hhz, hlen, w0, w1, hm, m0, m1, s0, s1, g0, g1⟩ := hk
  have hn1 := hl.n1; have hn2 := hl.n2; have ht1 := hl.t1; have ht2 := hl.t2
  have HS := Lib.hid (Does.refl (B := (· = b)) hM (fun i hi => hi ▸ ha) hb)
  have hA : AtHead w.drew b k.t k.s k.so k.d k.who k.slot := hT.drew.head
  have hu1 : IntKind.u64.wrap k.slot = k.slot := by rw [IntKind.wrap_u64]; omega
  have hu2 : IntKind.u64.wrap (k.slot + 1) = k.slot + 1 := by rw [IntKind.wrap_u64]; omega
  have HT := Lib.hid hT
  have HX := Lib.hid hx
  have HP := Lib.hid (fun W (hW : IsObj W b k.list) => pass_any W b k n m hl w0 w1 hm m0 m1 s0 s1 hW)
  have HSL := Lib.hid hsl
  unfold Cl.guard
  obtain ⟨h1, h2⟩ := h4
  rw [if_neg h1, if_neg h2]
  have q1 : (x == k.slot + 1) = false := by simp [h1]
  have q2 : (k.steps - 1 == k.t - 1) = false := by simp; omega
  clear h1 h2
  clear hT hx hM ha hm hhz hlen hsl
  go_enter Tryz.func99, Tryz.ntmps99
  go_wp2_with fail
  refine wp_region_seqS ((fun w' => AtHead w' b k.t k.s k.so k.d k.who k.slot)) ((0, true) :: (1, true) :: (2, true) :: (3, true) :: (4, true) :: (5, true) :: (6, true) :: (7, true) :: (8, true) :: (9, true) :: (12, true) :: (13, true) :: (14, true) :: (15, true) :: (16, true) :: (17, true) :: (10, false) :: (11, false) :: (18, true) :: []) (by kernel_rfl) (by kernel_rfl) (by kernel_rfl) (by decide) (fun _ _ _ _ _ h => h) (hA) ?_
  repeat (first | (refine seq_take (v := ?_) rfl ?_ ?_ ?_; rotate_left 1; rfl; (focus (intro wS hSw; obtain ⟨c0, c1, c2, c3, c4, c5⟩ := hSw; go_simp; first | done | with_reducible rfl)); (try simp only [Act.put, List.setIfInBounds_toArray, List.set_cons_zero, List.set_cons_succ])) | (refine seq_skip rfl ?_ ?_; rfl; (try simp only [Act.put, List.setIfInBounds_toArray, List.set_cons_zero, List.set_cons_succ])))
  refine seq_run rfl (fun K hK => ?_)
  go_simp
  go_at_call 115
  refine (chazard_at _ _ _ _ n _ j _ hl (by omega) (by omega) HSL.out).mono ?_
  rintro r w1 ⟨rfl, hb1⟩
  (try go_wp2_with fail)
  replace HT := Lib.hid (HT.out.drew.later hb1)
  replace HS := Lib.hid (HS.out.drew.later hb1)
  clear hb1 hA
  refine hK.out _ _ (HT.out.head) (fun _ => ?_)
  (try simp only [Act.put, List.setIfInBounds_toArray, List.set_cons_zero, List.set_cons_succ])
  clear hK K
  repeat (first | (refine seq_take (v := ?_) rfl ?_ ?_ ?_; rotate_left 1; rfl; (focus (intro wS hSw; obtain ⟨c0, c1, c2, c3, c4, c5⟩ := hSw; go_simp; first | done | with_reducible rfl)); (try simp only [Act.put, List.setIfInBounds_toArray, List.set_cons_zero, List.set_cons_succ])) | (refine seq_skip rfl ?_ ?_; rfl; (try simp only [Act.put, List.setIfInBounds_toArray, List.set_cons_zero, List.set_cons_succ])))
  refine seq_run rfl (fun K hK => ?_)
  go_simp
  go_at_call 113
  refine (load_in base _ p c _ _ _ k.who j x HS.out.mem HX.out HS.out.size hL).mono ?_
  rintro r w2 ⟨rfl, v2, hT2⟩
  (try go_wp2_with fail)
  have hlt1 := HT.out.lt
  replace HT := Lib.hid (HT.out.keep hT2.keep (HS.out.apart b rfl))
  replace HS := Lib.hid (HS.out.cells (fun i hi => hi ▸ hlt1) hT2)
  clear hT2
  refine hK.out _ _ (HT.out.head) (fun _ => ?_)
  (try simp only [Act.put, List.setIfInBounds_toArray, List.set_cons_zero, List.set_cons_succ])
  clear hK K
  repeat (first | (refine seq_take (v := ?_) rfl ?_ ?_ ?_; rotate_left 1; rfl; (focus (intro wS hSw; obtain ⟨c0, c1, c2, c3, c4, c5⟩ := hSw; go_simp; first | done | with_reducible rfl)); (try simp only [Act.put, List.setIfInBounds_toArray, List.set_cons_zero, List.set_cons_succ])) | (refine seq_skip rfl ?_ ?_; rfl; (try simp only [Act.put, List.setIfInBounds_toArray, List.set_cons_zero, List.set_cons_succ])))
  refine seq_done ?_
  obtain ⟨c0, c1, c2, c3, c4, c5, c6, c7, c8, c9, c10, c11, c12⟩ := HT.out.cl
  have ff := HT.out.fz 6
  go_wp2
  go_end0
  exact ⟨rfl, _, HS.out.own ((Keep.refl _ _).own 6 _), HT.out.set 6 (.int .i64 (k.steps + 1))⟩

theorem look_any (x : Int) (hk : k.Ok n m hz C) (j : Nat) (hsl : k.slot = (j : Int)) (hx : C[j]? = some x) (hT : IsObj w b k.list) (hM : IsMem base w p c v C L) (ha : ¬ Foot p c v b) (hb : base ≤ w.heap.size) (hL : L.length < 1000000000) :
    Calls Tryz.prog 98 #[pt b, pt p] w (ClPost base w b p c v (k.look m x) C (L ++ [⟨k.who, 0, j, x, x, true⟩]) (.returned (.tuple #[]))) := by
  by_cases h1 : x / 8 % 8192 = 8191
  · exact look_0 base w b p c v C L k n m hz x h1 hk j hsl hx hT hM ha hb hL
  · by_cases h2 : x % 4 = 0
    · exact look_1 base w b p c v C L k n m hz x ⟨h1, h2⟩ hk j hsl hx hT hM ha hb hL
    · by_cases h3 : x % 4 = 2
      · exact look_2 base w b p c v C L k n m hz x ⟨h1, h2, h3⟩ hk j hsl hx hT hM ha hb hL
      · exact look_3 base w b p c v C L k n m hz x ⟨h1, h2, h3⟩ hk j hsl hx hT hM ha hb hL

theorem guard_any (x : Int) (hk : k.Ok n m hz C) (hs : 1 ≤ k.steps) (j : Nat) (hsl : 2 * n + (k.steps - 1) = (j : Int)) (hx : C[j]? = some x) (hT : IsObj w b k.list) (hM : IsMem base w p c v C L) (ha : ¬ Foot p c v b) (hb : base ≤ w.heap.size) (hL : L.length < 1000000000) :
    Calls Tryz.prog 99 #[pt b, pt p, i64 (k.steps - 1)] w (ClPost base w b p c v (k.guard m x) C (L ++ [⟨k.who, 0, j, x, x, true⟩]) (.returned (.tuple #[]))) := by
  by_cases h1 : x = k.slot + 1
  · exact guard_0 base w b p c v C L k n m hz x h1 hk hs j hsl hx hT hM ha hb hL
  · by_cases h2 : k.steps = k.t
    · exact guard_1 base w b p c v C L k n m hz x ⟨h1, h2⟩ hk hs j hsl hx hT hM ha hb hL
    · exact guard_2 base w b p c v C L k n m hz x ⟨h1, h2⟩ hk hs j hsl hx hT hM ha hb hL

set_option maxHeartbeats 1000000 in
theorem clstep_rest (hp : k.ph ≠ 0) (hT : IsObj w b k.list) (hM : IsMem base w p c v C L) (ha : ¬ Foot p c v b) (hb : base ≤ w.heap.size) :
    Calls Tryz.prog 84 #[pt b, pt p] w (ClPost base w b p c v k C L (.returned (i64 k.ph))) := by
  have qp : (k.ph != 0) = true := by simp [hp]
  have HS := Lib.hid (Does.refl (B := (· = b)) hM (fun i hi => hi ▸ ha) hb)
  have HT := Lib.hid hT
  obtain ⟨c0, c1, c2, c3, c4, c5, c6, c7, c8, c9, c10, c11, c12⟩ := hT.cl
  clear hT hM ha hp
  go_enter Tryz.func84, Tryz.ntmps84
  go_wp2
  go_ret
  exact ⟨rfl, _, HS.out, HT.out⟩

set_option maxHeartbeats 1000000 in
theorem clstep_look (k1 : Cl) (C1 : List Int) (L1 : List Ev) (hp : k.ph = 0) (hs : k.steps = 0) (hT : IsObj w b k.list)
    (hin : Calls Tryz.prog 98 #[pt b, pt p] w (ClPost base w b p c v k1 C1 L1 (.returned (.tuple #[])))) :
    Calls Tryz.prog 84 #[pt b, pt p] w (ClPost base w b p c v k1 C1 L1 (.returned (i64 k1.ph))) := by
  have qp : (k.ph != 0) = false := by simp [hp]
  have qs : (k.steps == 0) = true := by simp [hs]
  have HIN := Lib.hid hin
  obtain ⟨c0, c1, c2, c3, c4, c5, c6, c7, c8, c9, c10, c11, c12⟩ := hT.cl
  clear hin hs hp hT
  go_enter Tryz.func84, Tryz.ntmps84
  go_wp2_with fail
  refine HIN.out.mono ?_
  rintro r w1 ⟨rfl, v1, hS, hT1⟩
  have HT1 := Lib.hid hT1
  have HS := Lib.hid hS
  clear c0 c1 c2 c3 c4 c5 c6 c7 c8 c9 c10 c11 c12 hS
  obtain ⟨c0, c1, c2, c3, c4, c5, c6, c7, c8, c9, c10, c11, c12⟩ := hT1.cl
  clear hT1
  go_wp2
  go_ret
  exact ⟨rfl, _, HS.out, HT1.out⟩

set_option maxHeartbeats 1000000 in
theorem clstep_guard (k1 : Cl) (C1 : List Int) (L1 : List Ev) (hp : k.ph = 0) (hs : 1 ≤ k.steps) (hs2 : k.steps ≤ 64) (hT : IsObj w b k.list)
    (hin : Calls Tryz.prog 99 #[pt b, pt p, i64 (k.steps - 1)] w (ClPost base w b p c v k1 C1 L1 (.returned (.tuple #[])))) :
    Calls Tryz.prog 84 #[pt b, pt p] w (ClPost base w b p c v k1 C1 L1 (.returned (i64 k1.ph))) := by
  have qp : (k.ph != 0) = false := by simp [hp]
  have qs : (k.steps == 0) = false := by simp; omega
  have HIN := Lib.hid hin
  obtain ⟨c0, c1, c2, c3, c4, c5, c6, c7, c8, c9, c10, c11, c12⟩ := hT.cl
  clear hin hp hT
  go_enter Tryz.func84, Tryz.ntmps84
  go_wp2_with fail
  refine HIN.out.mono ?_
  rintro r w1 ⟨rfl, v1, hS, hT1⟩
  have HT1 := Lib.hid hT1
  have HS := Lib.hid hS
  clear c0 c1 c2 c3 c4 c5 c6 c7 c8 c9 c10 c11 c12 hS
  obtain ⟨c0, c1, c2, c3, c4, c5, c6, c7, c8, c9, c10, c11, c12⟩ := hT1.cl
  clear hT1
  go_wp2
  go_ret
  exact ⟨rfl, _, HS.out, HT1.out⟩

/-- A step does what 'Cl.step' says. -/
theorem clstep_any (hk : k.Ok n m hz C) (hT : IsObj w b k.list) (hM : IsMem base w p c v C L) (ha : ¬ Foot p c v b) (hb : base ≤ w.heap.size) (hL : L.length < 1000000000) :
    Calls Tryz.prog 84 #[pt b, pt p] w (ClPost base w b p c v (k.step m hz C) C (L ++ k.ev hz C) (.returned (i64 (k.step m hz C).ph))) := by
  have hn1 := hk.lay.n1; have hn2 := hk.lay.n2; have ht1 := hk.lay.t1; have ht2 := hk.lay.t2
  have h1 := hk.hz; have h2 := hk.len; have h3 := hk.m0; have h4 := hk.m1; have h5 := hk.s0; have h6 := hk.s1; have h7 := hk.g0; have h8 := hk.g1
  unfold Cl.step Cl.ev
  by_cases hp : k.ph = 0
  · rw [if_pos hp, if_pos hp]
    by_cases hs : k.steps = 0
    · rw [if_pos hs]
      have hc : k.cell hz = k.slot.toNat := if_pos hs
      rw [hc]
      exact clstep_look base w b p c v k _ _ _ hp hs hT (look_any base w b p c v C L k n m hz _ hk k.slot.toNat (by omega) (getD_at (by omega)) hT hM ha hb hL)
    · rw [if_neg hs]
      have hc : k.cell hz = hz + (k.steps - 1).toNat := if_neg hs
      rw [hc]
      exact clstep_guard base w b p c v k _ _ _ hp (by omega) (by omega) hT (guard_any base w b p c v C L k n m hz _ hk (by omega) _ (by omega) (getD_at (by omega)) hT hM ha hb hL)
  · rw [if_neg hp, if_neg hp, List.append_nil]
    exact clstep_rest base w b p c v C L k hp hT hM ha hb

set_option maxHeartbeats 1000000 in
theorem clphase_any (hT : IsObj w b k.list) : Calls Tryz.prog 160 #[pt b] w fun r w' => r = .returned (i64 k.ph) ∧ w = w' := by
  obtain ⟨c0, c1, c2, c3, c4, c5, c6, c7, c8, c9, c10, c11, c12⟩ := hT.cl
  go_enter Tryz.func160, Tryz.ntmps160
  go_wp2
  go_ret
  exact ⟨rfl, rfl⟩

set_option maxHeartbeats 1000000 in
theorem clslot_any (hT : IsObj w b k.list) : Calls Tryz.prog 88 #[pt b] w fun r w' => r = .returned (i64 k.slot) ∧ w = w' := by
  obtain ⟨c0, c1, c2, c3, c4, c5, c6, c7, c8, c9, c10, c11, c12⟩ := hT.cl
  go_enter Tryz.func88, Tryz.ntmps88
  go_wp2
  go_ret
  exact ⟨rfl, rfl⟩

set_option maxHeartbeats 1000000 in
theorem clword_any (hp : k.ph = 1) (hT : IsObj w b k.list) : Calls Tryz.prog 89 #[pt b] w fun r w' => r = .returned (wd k.ws k.we k.wg k.wl k.wh) ∧ Below w.heap.size w w' := by
  have q : (k.ph != 1) = false := by simp [hp]
  have hlt := hT.lt
  obtain ⟨c0, c1, c2, c3, c4, c5, c6, c7, c8, c9, c10, c11, c12⟩ := hT.cl
  clear hp hT
  go_enter Tryz.func89, Tryz.ntmps89
  go_wp2
  exact bodyPost_ret (v := wd k.ws k.we k.wg k.wl k.wh) (by simp [results, Tryz.results89, go_sem]) rfl ⟨rfl, by first | exact below_set (below_set (below_set (below_set (below_set (below_new (Below.refl _ _) _) (by simp) _) (by simp) _) (by simp) _) (by simp) _) (by simp) _ | exact below_new (Below.refl _ _) _⟩

/-- A claim that is begun. -/
def cl0 (t s so d who m : Int) : Cl := ⟨t, s, so, d, who, m, 0, 0, 0, 0, 0, 0, 0⟩

set_option maxHeartbeats 2000000 in
theorem clnew_any (t s so d who : Int) (hl : Lay t s n) (w0 : 0 ≤ who) (w1 : who < t) (hm : who * s = m) (m0 : 0 ≤ m) (m1 : m + s ≤ n) :
    Calls Tryz.prog 80 #[cf t s so d, i64 who] w fun r w' => ∃ b, r = .returned (pt b) ∧ IsObj w' b (cl0 t s so d who m).list ∧ Below w.heap.size w w' ∧ w.heap.size ≤ b := by
  have Hm := Lib.hid hm
  have hs1 := hl.s1
  clear hm
  go_enter Tryz.func80, Tryz.ntmps80
  go_wp2_with fail
  refine wp_region_seq ((0, true) :: (1, true) :: (2, true) :: (3, true) :: (4, false) :: (5, true) :: (6, false) :: (7, true) :: []) (by kernel_rfl) (by kernel_rfl) (by kernel_rfl) (by decide) (fun _ _ _ _ _ h => h) (fun hHeld => ?_)
  repeat (first
    | (refine seq_take (v := ?_) rfl ?_ ?_ ?_; rotate_left 1; rfl; (focus (intro wS hSw; have hk := below_rule hSw; go_simp; first | done | with_reducible rfl)); (try simp only [Act.put, List.setIfInBounds_toArray, List.set_cons_zero, List.set_cons_succ]))
    | (refine seq_skip rfl ?_ ?_; rfl; (try simp only [Act.put, List.setIfInBounds_toArray, List.set_cons_zero, List.set_cons_succ]))
    | (refine seq_run rfl (fun K hK => ?_); go_simp; (try (first | (go_at_call 97; refine (cfirst_any t s so d n who m _ hl w0 w1 Hm.out m0 (by omega)).mono ?_; rintro e w' ⟨rfl, hb'⟩))); (try go_wp2_with fail); refine hK.out _ _ ?_ ?_; (focus (first | exact below_step hHeld hb' | exact below_new hHeld _ | exact hHeld)); (try clear hb'); clear hHeld hK K; intro hHeld; (try simp only [Act.put, List.setIfInBounds_toArray, List.set_cons_zero, List.set_cons_succ])))
  first | refine seq_done ?_ | skip
  go_wp2
  go_ret
  have hs := hHeld.size
  simp only [World.alloc, Array.size_push] at hs
  exact ⟨_, rfl, IsObj.made w' (cl0 t s so d who m).list 167, below_step (below_new (Below.refl _ _) _) hHeld, by omega⟩

end
end

section
open Go.RowKit
set_option linter.unusedVariables false

/-- Cells, a claim, and what else the call holds. -/
def ClHold (W w : World) (p c : Nat) (v : Value) (C : List Int) (L : List Ev) (b : Nat) (k : Cl) (R : List Thing) : Prop :=
  Hold W w (tMem W.heap.size p c v C L :: tObj W.heap.size b k.list :: R)

section
variable {W w w' : World} {p c b : Nat} {v v' : Value} {C C' : List Int} {L L' : List Ev} {k k' : Cl} {R : List Thing}
theorem ClHold.mem (h : ClHold W w p c v C L b k R) : IsMem W.heap.size w p c v C L := Hold.has h 0 _ rfl
theorem ClHold.obj (h : ClHold W w p c v C L b k R) : IsObj w b k.list := (Hold.has h 1 _ rfl).1
theorem ClHold.later (h : ClHold W w p c v C L b k R) (e : Below w.heap.size w w') : ClHold W w' p c v C L b k R := Hold.later h e
theorem ClHold.size (h : ClHold W w p c v C L b k R) : W.heap.size ≤ w.heap.size := Hold.size h
theorem ClHold.below (h : ClHold W w p c v C L b k R) : Below W.heap.size W w := Hold.below h
theorem ClHold.store (h : ClHold W w p c v C L b k R) (t : Touched W.heap.size w w' p c v v' C' L') : ClHold W w' p c v' C' L' b k R := Hold.mem h 0 rfl t
/-- A step. -/
theorem ClHold.call {n m : Int} {hz : Nat} (h : ClHold W w p c v C L b k R) (hk : k.Ok n m hz C) (hL : L.length < 1000000000) :
    Calls Tryz.prog 84 #[pt b, pt p] w fun r w' => r = .returned (i64 (k.step m hz C).ph) ∧ ∃ v', ClHold W w' p c v' C (L ++ k.ev hz C) b (k.step m hz C) R :=
  (clstep_any W.heap.size w b p c v C L k n m hz hk h.obj h.mem (Hold.free h 0 1 (by decide) rfl rfl b rfl) h.size hL).mono fun r w' ⟨hr, v', hd, hs⟩ =>
    ⟨hr, v', Hold.does h 0 1 (by decide) rfl rfl hd (tObj_ok _ _ _) ⟨hs, (Hold.has h 1 _ rfl).2⟩ (fun q hq => hq)⟩
theorem ClHold.begun (h : Hold W w (tMem W.heap.size p c v C L :: [])) (e : Below w.heap.size w w') (hk : IsObj w' b k.list) (hb : w.heap.size ≤ b) : ClHold W w' p c v C L b k [] :=
  Hold.more h e (tObj_ok _ _ _) ⟨hk, Nat.le_trans h.size hb⟩ (fun q hq => by cases hq; exact hb)
end

theorem Cl.ev_le (k : Cl) (hz : Nat) (C : List Int) : (k.ev hz C).length ≤ 1 := by
  unfold Cl.ev
  split <;> simp

theorem lay22' : Lay 2 2 4 := ⟨rfl, by omega, by omega, by omega, by omega, by omega, by omega, by omega⟩


theorem mod3 (a : Int) : ∃ v : Int, 0 ≤ v ∧ v ≤ 2 ∧ wrap64 ((IntKind.u64.wrap a).tmod 3) = v ∧ IntKind.i64.wrap ((IntKind.u64.wrap a).tmod 3) = v := by
  have h0 : 0 ≤ IntKind.u64.wrap a := by rw [IntKind.wrap_u64]; omega
  refine ⟨IntKind.u64.wrap a % 3, by omega, by omega, ?_, ?_⟩
  · rw [Int.tmod_eq_emod_of_nonneg h0]
    unfold wrap64
    omega
  · rw [Int.tmod_eq_emod_of_nonneg h0]
    exact IntWalk.i64_in _ (by omega)

/-- What a place says of itself as it is made: always a word that is right. -/
def PlacePost (w : World) (r : Ending) (w' : World) : Prop := ∃ s g : Int, r = .returned (wd s 0 g 0 0) ∧ 0 ≤ s ∧ s ≤ 2 ∧ 0 ≤ g ∧ g ≤ 8191 ∧ Below w.heap.size w w'

end

section
open Go.RowKit
set_option linter.unusedVariables false

/-- A place may be used. -/
def usable (C : List Int) (t : Int) (hz : Nat) (slot : Int) : Prop :=
  C.getD slot.toNat 0 / 8 % 8192 ≠ 8191 ∧ (C.getD slot.toNat 0 % 4 = 0 ∨ (C.getD slot.toNat 0 % 4 = 2 ∧ ∀ h : Nat, (h : Int) < t → C.getD (hz + h) 0 ≠ slot + 1))

/-- It holds what the place says of itself. -/
def Cl.holds (k : Cl) (C : List Int) : Prop :=
  k.ws = C.getD k.slot.toNat 0 % 4 ∧ k.we = C.getD k.slot.toNat 0 / 4 % 2 ∧ k.wg = C.getD k.slot.toNat 0 / 8 % 8192 ∧ k.wl = C.getD k.slot.toNat 0 / 65536 % 16777216 ∧ k.wh = C.getD k.slot.toNat 0 / 1099511627776

/-- What is known of a claim behind i steps, of cells that nobody turns. -/
structure Fd (k : Cl) (C : List Int) (n m : Int) (hz : Nat) (i : Int) : Prop where
  ok : k.Ok n m hz C
  no : ∀ j, m ≤ j → j < k.slot → ¬ usable C k.t hz j
  i0 : k.ph = 0 → i ≤ (k.slot - m) * (k.t + 1) + k.steps
  g : k.ph = 0 → 1 ≤ k.steps → (C.getD k.slot.toNat 0 / 8 % 8192 ≠ 8191 ∧ C.getD k.slot.toNat 0 % 4 = 2 ∧ ∀ h : Nat, (h : Int) < k.steps - 1 → C.getD (hz + h) 0 ≠ k.slot + 1) ∧ k.holds C
  p1 : k.ph = 1 → usable C k.t hz k.slot ∧ k.holds C
  p2 : k.ph = 2 → k.slot = m + k.s - 1 ∧ ¬ usable C k.t hz k.slot
  pr : k.ph = 0 ∨ k.ph = 1 ∨ k.ph = 2

def Cl.Same (k k' : Cl) : Prop := k'.t = k.t ∧ k'.s = k.s ∧ k'.who = k.who

section
variable {k : Cl} {C : List Int} {n m i : Int} {hz : Nat}

theorem Cl.pass_same (k : Cl) (m : Int) : k.Same (k.pass m) := by
  unfold Cl.pass
  split <;> exact ⟨rfl, rfl, rfl⟩
theorem Cl.step_same (k : Cl) (m : Int) (hz : Nat) (C : List Int) : k.Same (k.step m hz C) := by
  unfold Cl.step
  split
  · split
    · unfold Cl.look
      split
      · exact Cl.pass_same (k.word _) m
      · split
        · exact ⟨rfl, rfl, rfl⟩
        · split
          · exact ⟨rfl, rfl, rfl⟩
          · exact Cl.pass_same (k.word _) m
    · unfold Cl.guard
      split
      · exact Cl.pass_same k m
      · split <;> exact ⟨rfl, rfl, rfl⟩
  · exact ⟨rfl, rfl, rfl⟩

/-- A place that may not be used is passed over. -/
theorem Fd.pass (h1 : k.Ok n m hz C) (hp : k.ph = 0) (hno : ∀ j, m ≤ j → j < k.slot → ¬ usable C k.t hz j) (hu : ¬ usable C k.t hz k.slot) (hi : i ≤ (k.slot - m) * (k.t + 1) + k.steps) : Fd (k.pass m) C n m hz (i + 1) := by
  obtain ⟨l, h2, h3, w0, w1, hm, m0, m1, s0, s1, g0, g1⟩ := h1
  have ht1 := l.t1
  unfold Cl.pass
  by_cases he : k.slot = m + k.s - 1
  · rw [if_pos he]
    exact ⟨⟨l, h2, h3, w0, w1, hm, m0, m1, s0, s1, g0, g1⟩, hno, (fun h => by simp at h), (fun h => by simp at h), (fun h => by simp at h), fun _ => ⟨he, hu⟩, .inr (.inr rfl)⟩
  · rw [if_neg he]
    refine ⟨⟨l, h2, h3, w0, w1, hm, m0, m1, by show m ≤ k.slot + 1; omega, by show k.slot + 1 < m + k.s; omega, Int.le_refl _, by show 0 ≤ k.t; omega⟩, fun j hj hj2 => ?_, fun _ => ?_, (fun _ h => by simp at h), fun h => ?_, fun h => ?_, .inl hp⟩
    · have hj3 : j < k.slot + 1 := hj2
      rcases (by omega : j < k.slot ∨ j = k.slot) with h | rfl
      · exact hno j hj h
      · exact hu
    · show i + 1 ≤ (k.slot + 1 - m) * (k.t + 1) + 0
      rw [show k.slot + 1 - m = (k.slot - m) + 1 by omega, Int.add_mul, Int.one_mul]
      omega
    · have h' : k.ph = 1 := h
      omega
    · have h' : k.ph = 2 := h
      omega

theorem Fd.step (h : Fd k C n m hz i) : Fd (k.step m hz C) C n m hz (i + 1) := by
  have hok := h.ok
  have hno := h.no
  obtain ⟨l, h2, h3, w0, w1, hm, m0, m1, s0, s1, g0, g1⟩ := id hok
  have ht1 := l.t1
  unfold Cl.step
  by_cases hp : k.ph = 0
  · rw [if_pos hp]
    have hi := h.i0 hp
    by_cases hs : k.steps = 0
    · rw [if_pos hs]
      have hc : k.cell hz = k.slot.toNat := if_pos hs
      rw [hc]
      have hh : (k.word (C.getD k.slot.toNat 0)).holds C := ⟨rfl, rfl, rfl, rfl, rfl⟩
      have hok2 : (k.word (C.getD k.slot.toNat 0)).Ok n m hz C := ⟨l, h2, h3, w0, w1, hm, m0, m1, s0, s1, g0, g1⟩
      unfold Cl.look
      split
      · rename_i hx
        exact Fd.pass hok2 hp hno (fun hu => hu.1 hx) hi
      · rename_i hx
        split
        · rename_i h0
          exact ⟨⟨l, h2, h3, w0, w1, hm, m0, m1, s0, s1, g0, g1⟩, hno, (fun h => by simp at h), (fun h => by simp at h), fun _ => ⟨⟨hx, .inl h0⟩, hh⟩, (fun h => by simp at h), .inr (.inl rfl)⟩
        · rename_i h0
          split
          · rename_i h4
            refine ⟨⟨l, h2, h3, w0, w1, hm, m0, m1, s0, s1, by show (0 : Int) ≤ 1; decide, ht1⟩, hno, fun _ => ?_, fun _ _ => ⟨⟨hx, h4, fun e he => by have he' : (e : Int) < 1 - 1 := he; omega⟩, hh⟩, fun h => ?_, fun h => ?_, .inl hp⟩
            · show i + 1 ≤ (k.slot - m) * (k.t + 1) + 1
              omega
            · have h' : k.ph = 1 := h
              omega
            · have h' : k.ph = 2 := h
              omega
          · rename_i h4
            exact Fd.pass hok2 hp hno (fun hu => by
              rcases hu.2 with h5 | ⟨h5, _⟩
              · exact h0 h5
              · exact h4 h5) hi
    · rw [if_neg hs]
      obtain ⟨⟨a1, a2, a3⟩, hh⟩ := h.g hp (by omega)
      have hc : k.cell hz = hz + (k.steps - 1).toNat := if_neg hs
      rw [hc]
      unfold Cl.guard
      split
      · rename_i hx
        refine Fd.pass hok hp hno (fun hu => ?_) hi
        rcases hu.2 with h5 | ⟨_, h5⟩
        · omega
        · exact h5 (k.steps - 1).toNat (by omega) hx
      · rename_i hx
        have hall : ∀ e : Nat, (e : Int) < k.steps → C.getD (hz + e) 0 ≠ k.slot + 1 := fun e he => by
          rcases (by omega : (e : Int) < k.steps - 1 ∨ e = (k.steps - 1).toNat) with h5 | rfl
          · exact a3 e h5
          · exact hx
        split
        · rename_i ht
          exact ⟨⟨l, h2, h3, w0, w1, hm, m0, m1, s0, s1, g0, g1⟩, hno, (fun h => by simp at h), (fun h => by simp at h), fun _ => ⟨⟨a1, .inr ⟨a2, fun e he => hall e (by have he' : (e : Int) < k.t := he; omega)⟩⟩, hh⟩, (fun h => by simp at h), .inr (.inl rfl)⟩
        · rename_i ht
          refine ⟨⟨l, h2, h3, w0, w1, hm, m0, m1, s0, s1, by show 0 ≤ k.steps + 1; omega, by show k.steps + 1 ≤ k.t; omega⟩, hno, fun _ => ?_, fun _ _ => ⟨⟨a1, a2, fun e he => hall e (by have he' : (e : Int) < k.steps + 1 - 1 := he; omega)⟩, hh⟩, fun h => ?_, fun h => ?_, .inl hp⟩
          · show i + 1 ≤ (k.slot - m) * (k.t + 1) + (k.steps + 1)
            omega
          · have h' : k.ph = 1 := h
            omega
          · have h' : k.ph = 2 := h
            omega
  · rw [if_neg hp]
    exact ⟨hok, hno, fun h => absurd h hp, fun h => absurd h hp, h.p1, h.p2, h.pr⟩

/-- It is done, or there is none, behind as many steps as Most says. -/
theorem Fd.most (h : Fd k C n m hz i) (hi : i = k.s * (k.t + 1)) : k.ph ≠ 0 := by
  intro hp
  have h0 := h.i0 hp
  have h1 := h.ok.s1
  have h2 := h.ok.g1
  have h3 := h.ok.lay.t1
  have h4 := Int.mul_le_mul_of_nonneg_right (show k.slot - m ≤ k.s - 1 by omega) (show 0 ≤ k.t + 1 by omega)
  rw [show (k.s - 1) * (k.t + 1) = k.s * (k.t + 1) - (k.t + 1) by rw [Int.sub_mul, Int.one_mul]] at h4
  omega

theorem Fd.start (t s so d who : Int) (hl : Lay t s n) (h2 : (hz : Int) = 2 * n) (h3 : (C.length : Int) = 2 * n + 2 * t) (w0 : 0 ≤ who) (w1 : who < t) (hm : who * s = m) (m0 : 0 ≤ m) (m1 : m + s ≤ n) : Fd (cl0 t s so d who m) C n m hz 0 :=
  ⟨⟨hl, h2, h3, w0, w1, hm, m0, m1, Int.le_refl _, by show m < m + s; have := hl.s1; omega, Int.le_refl _, by show 0 ≤ t; have := hl.t1; omega⟩, fun j hj hj2 => by have h : j < m := hj2; omega, fun _ => by show (0 : Int) ≤ (m - m) * (t + 1) + 0; rw [Int.sub_self, Int.zero_mul]; decide, (fun _ h => by simp [cl0] at h), (fun h => by simp [cl0] at h), (fun h => by simp [cl0] at h), .inl rfl⟩
end

theorem who_s {t s who : Int} {N : Nat} (hl : Lay t s N) (w0 : 0 ≤ who) (w1 : who < t) : ∃ m : Nat, who * s = (m : Int) ∧ (m : Int) + s ≤ N := by
  have h1 := hl.s1
  have h2 := Int.mul_nonneg w0 (show 0 ≤ s by omega)
  have h3 := Int.mul_le_mul_of_nonneg_right (show who + 1 ≤ t by omega) (show 0 ≤ s by omega)
  rw [hl.eq, Int.add_mul, Int.one_mul] at h3
  exact ⟨(who * s).toNat, by omega, by omega⟩
end

section
open Go.RowKit
set_option linter.unusedVariables false

theorem IsMem.weak {base base' : Nat} {w : World} {p c : Nat} {v : Value} {C : List Int} {L : List Ev} (h : IsMem base w p c v C L) (hb : base' ≤ base) : IsMem base' w p c v C L :=
  ⟨h.c0, h.c1, h.fz, row_base h.row hb, row_base h.log hb, h.pc, h.vp, h.vc, Nat.le_trans hb h.pb, h.ps, h.num⟩

theorem rows_place {w : World} {a0 : Option Addr} {len cap : Nat} (h : IsRows w [.inl .i64, .inl .i64, .inr true] a0 len cap) :
    ∃ b off, ∃ X : Nat → Int × Int × Bool, ∀ i, i < len → a0 = some ⟨b, off, none⟩ ∧ len ≤ cap ∧ b < w.heap.size ∧ w.cell? ⟨b, off + i * 3, none⟩ = some (i64 (X i).1) ∧ w.cell? ⟨b, off + i * 3 + 1, none⟩ = some (i64 (X i).2.1) ∧ w.cell? ⟨b, off + i * 3 + 2, none⟩ = some (.bool (X i).2.2) := by
  obtain ⟨h1, h2, h3, h4, h5⟩ := h
  rcases Nat.eq_zero_or_pos len with h0 | hl
  · exact ⟨0, 0, fun _ => (0, 0, false), fun i hi => by omega⟩
  obtain ⟨b, off, rfl⟩ := h4 hl
  have hx : ∀ i, ∃ x : Int × Int × Bool, i < len → w.cell? ⟨b, off + i * 3, none⟩ = some (i64 x.1) ∧ w.cell? ⟨b, off + i * 3 + 1, none⟩ = some (i64 x.2.1) ∧ w.cell? ⟨b, off + i * 3 + 2, none⟩ = some (.bool x.2.2) := by
    intro i
    by_cases hi : i < len
    · obtain ⟨cs, hf, hc⟩ := h5 b off rfl i hi
      obtain ⟨c0, l0, rfl, r0, f0⟩ := fit_cons hf
      obtain ⟨c1, l1, rfl, r1, f1⟩ := fit_cons f0
      obtain ⟨c2, l2, rfl, r2, f2⟩ := fit_cons f1
      obtain ⟨x0, rfl, g0⟩ := r0
      obtain ⟨x1, rfl, g1⟩ := r1
      obtain ⟨x2, rfl⟩ := r2
      exact ⟨⟨x0, x1, x2⟩, fun _ => ⟨hc 0 _ rfl, hc 1 _ rfl, hc 2 _ rfl⟩⟩
    · exact ⟨⟨0, 0, false⟩, fun h => absurd h hi⟩
  obtain ⟨X, hX⟩ := Classical.axiomOfChoice hx
  exact ⟨b, off, X, fun i hi => ⟨rfl, h1, World.block_lt_of_cell? w _ (hX i hi).1, hX i hi⟩⟩
theorem rows_ints {w : World} {a0 : Option Addr} {len cap : Nat} (h : IsRows w [.inl .i64] a0 len cap) :
    ∃ b off, ∃ X : Nat → Int, ∀ i, i < len → a0 = some ⟨b, off, none⟩ ∧ len ≤ cap ∧ b < w.heap.size ∧ w.cell? ⟨b, off + i, none⟩ = some (i64 (X i)) := by
  obtain ⟨h1, h2, h3, h4, h5⟩ := h
  rcases Nat.eq_zero_or_pos len with h0 | hl
  · exact ⟨0, 0, fun _ => 0, fun i hi => by omega⟩
  obtain ⟨b, off, rfl⟩ := h4 hl
  have hx : ∀ i, ∃ x : Int, i < len → w.cell? ⟨b, off + i, none⟩ = some (i64 x) := by
    intro i
    by_cases hi : i < len
    · obtain ⟨cs, hf, hc⟩ := h5 b off rfl i hi
      obtain ⟨c0, l0, rfl, r0, f0⟩ := fit_cons hf
      obtain ⟨x0, rfl, g0⟩ := r0
      have := hc 0 _ rfl
      simp only [List.length_cons, List.length_nil, Nat.zero_add, Nat.mul_one, Nat.add_zero] at this
      exact ⟨x0, fun _ => this⟩
    · exact ⟨0, fun h => absurd h hi⟩
  obtain ⟨X, hX⟩ := Classical.axiomOfChoice hx
  exact ⟨b, off, X, fun i hi => ⟨rfl, h1, World.block_lt_of_cell? w ⟨b, off + i, none⟩ (hX i hi), hX i hi⟩⟩

/-- The layout's box and a place of a list. -/
def AtCP (cb tb o : Nat) (t s x y : Int) (z : Bool) (w : World) : Prop := AtC w cb t s 0 0 ∧ w.cell? ⟨tb, o, none⟩ = some (i64 x) ∧ w.cell? ⟨tb, o + 1, none⟩ = some (i64 y) ∧ w.cell? ⟨tb, o + 2, none⟩ = some (.bool z)
theorem AtCP.keep {cb tb o : Nat} {t s x y : Int} {z : Bool} {w w' : World} {T : Nat → Prop} (h : AtCP cb tb o t s x y z w) (k : Keep T w w') (hc : ¬ T cb) (ht : ¬ T tb) : AtCP cb tb o t s x y z w' := ⟨h.1.keep k hc, k.cell h.2.1 ht, k.cell h.2.2.1 ht, k.cell h.2.2.2 ht⟩
theorem AtCP.later {cb tb o : Nat} {t s x y : Int} {z : Bool} {w w' : World} (h : AtCP cb tb o t s x y z w) (k : Below w.heap.size w w') : AtCP cb tb o t s x y z w' :=
  h.keep (Keep.of_below (T := fun _ => False) k) (fun h => h) (fun h => h)
/-- The layout's box and a number of a list. -/
def AtCI (cb tb o : Nat) (t s x : Int) (w : World) : Prop := AtC w cb t s 0 0 ∧ w.cell? ⟨tb, o, none⟩ = some (i64 x)
theorem AtCI.keep {cb tb o : Nat} {t s x : Int} {w w' : World} {T : Nat → Prop} (h : AtCI cb tb o t s x w) (k : Keep T w w') (hc : ¬ T cb) (ht : ¬ T tb) : AtCI cb tb o t s x w' := ⟨h.1.keep k hc, k.cell h.2 ht⟩
theorem AtCI.later {cb tb o : Nat} {t s x : Int} {w w' : World} (h : AtCI cb tb o t s x w) (k : Below w.heap.size w w') : AtCI cb tb o t s x w' :=
  h.keep (Keep.of_below (T := fun _ => False) k) (fun h => h) (fun h => h)
theorem chazard_nat2 (t s : Int) (N : Nat) (i : Int) (j : Nat) (w : World) (h : Lay t s N) (i0 : 0 ≤ i) (i1 : i ≤ t) (hj : 2 * (N : Int) + i = (j : Int)) :
    Calls Tryz.prog 115 #[cf t s 0 0, i64 i] w fun r w' => r = .returned (i64 j) ∧ Below w.heap.size w w' := by
  rw [← hj]
  exact chazard_any t s 0 0 N i w h i0 i1

/-- Cells that were made, with whatever is in them. -/
def CellsPost (base : Nat) (t : Int) (N : Nat) (w : World) (r : Ending) (w' : World) : Prop :=
  ∃ p c v C L, r = .returned (pt p) ∧ IsMem base w' p c v C L ∧ (C.length : Int) = 2 * N + 2 * t ∧ L.length ≤ 20 ∧ Below w.heap.size w w' ∧ ∀ q, Foot p c v q → w.heap.size ≤ q

end

section
open Go.RowKit
set_option linter.unusedVariables false

theorem Hold.init {W w : World} {a b c : Thing} (h : Hold W w [a, b, c]) : Hold W w [a, b] := Hold.less (l := [a, b]) (m := [c]) h

theorem rows_later {w w' : World} {ks : List CK} {a : Option Addr} {len cap : Nat} (h : IsRows w ks a len cap) (e : Below w.heap.size w w') : IsRows w' ks a len cap := by
  obtain ⟨h1, h2, h3, h4, h5⟩ := h
  refine ⟨h1, h2, h3, h4, fun b off ha i hi => ?_⟩
  obtain ⟨cs, hf, hc⟩ := h5 b off ha i hi
  exact ⟨cs, hf, fun j u hj => (e.cell (p := ⟨b, _, none⟩) (World.block_lt_of_cell? w _ (hc j u hj))).trans (hc j u hj)⟩

theorem clphase_at {w : World} {b : Nat} {k : Cl} (x : Int) (hx : k.ph = x) (hT : IsObj w b k.list) : Calls Tryz.prog 160 #[pt b] w fun r w' => r = .returned (i64 x) ∧ Below w.heap.size w w' :=
  hx ▸ quiet_below (clphase_any w b k hT)
theorem clslot_at {w : World} {b : Nat} {k : Cl} (x : Int) (hx : k.slot = x) (hT : IsObj w b k.list) : Calls Tryz.prog 88 #[pt b] w fun r w' => r = .returned (i64 x) ∧ Below w.heap.size w w' :=
  hx ▸ quiet_below (clslot_any w b k hT)
theorem own_div {q s m slot : Int} (s1 : 1 ≤ s) (s4 : s ≤ 4) (hm : q * s = m) (h0 : m ≤ slot) (h1 : slot < m + s) : slot / s = q := by
  rcases (by omega : s = 1 ∨ s = 2 ∨ s = 3 ∨ s = 4) with rfl | rfl | rfl | rfl
  all_goals omega


theorem most_le {t s : Int} (t1 : 1 ≤ t) (t4 : t ≤ 4) (s1 : 1 ≤ s) (s4 : s ≤ 4) : ∃ Q : Nat, s * (t + 1) = (Q : Int) ∧ Q ≤ 20 := by
  have h1 := Int.mul_le_mul s4 (show t + 1 ≤ 5 by omega) (by omega) (by decide)
  have h2 := Int.mul_nonneg (show 0 ≤ s by omega) (show 0 ≤ t + 1 by omega)
  exact ⟨(s * (t + 1)).toNat, by omega, by omega⟩

/-- Numbers that rise. -/
theorem rise_append {S : List Int} {x b : Int} (h : S.Pairwise (· < ·)) (hb : ∀ y ∈ S, y < b) (hx : b ≤ x) : (S ++ [x]).Pairwise (· < ·) := by
  rw [List.pairwise_append]
  refine ⟨h, List.pairwise_singleton _ _, fun a ha c hc => ?_⟩
  rw [List.mem_singleton] at hc
  have := hb a ha
  omega
theorem rise_ne {S : List Int} (h : S.Pairwise (· < ·)) {i j : Nat} (hj : j < i) (hi : i < S.length) : S.getD i 0 ≠ S.getD j 0 := by
  have h1 := List.pairwise_iff_getElem.1 h j i (by omega) hi hj
  rw [List.getD_eq_getElem?_getD, List.getD_eq_getElem?_getD, List.getElem?_eq_getElem hi, List.getElem?_eq_getElem (by omega)]
  show S[i] ≠ S[j]
  omega
end

section
open Go.RowKit
set_option linter.unusedVariables false

theorem fin_same (k : Tk) (x y : Int) : (fin k x y).t = k.t ∧ (fin k x y).s = k.s ∧ (fin k x y).so = k.so ∧ (fin k x y).d = k.d ∧ (fin k x y).who = k.who ∧ (fin k x y).steps = k.steps ∧ (fin k x y).seen = k.seen ∧ 1 ≤ (fin k x y).ph ∧ (fin k x y).ph ≤ 2 := by
  unfold fin
  split <;> simp

theorem stp_same (nb : Nat) (k : Tk) (C : List Int) (now : Int) : (stp nb k C now).1.t = k.t ∧ (stp nb k C now).1.s = k.s ∧ (stp nb k C now).1.so = k.so ∧ (stp nb k C now).1.d = k.d ∧ (stp nb k C now).1.who = k.who ∧ (stp nb k C now).2.1.length = C.length := by
  unfold stp
  repeat' split
  all_goals
    first
    | (have h1 := fin_same { k with steps := k.steps + 1 } (low (C.getD nb 0)) (low (C.getD nb 0)); have h2 := fin_same { k with steps := k.steps + 1 } k.seen (low (C.getD nb 0) - 1); have h3 := fin_same { k with steps := k.steps + 1 } k.seen k.seen; have h4 := fin_same { k with steps := k.steps + 1, seen := if k.steps = 0 then low now else k.seen } (if k.steps = 0 then low now else k.seen) (low now); simp_all; done)
    | (unfold fin; split <;> simp; done)
    | (simp; done)

set_option maxHeartbeats 2000000 in
theorem stp_ok (nb : Nat) (n : Int) (k : Tk) (C : List Int) (now : Int) (h : k.Ok nb n C) (hs : k.steps < 1000000) (n0 : 0 ≤ now) (hC : ∀ j, 0 ≤ C.getD j 0) : (stp nb k C now).1.Ok nb n (stp nb k C now).2.1 := by
  obtain ⟨e1, e2, e3, e4, e5, e6⟩ := stp_same nb k C now
  have hlow : ∀ x, 0 ≤ x → 0 ≤ low x ∧ low x ≤ 16777215 := fun x hx => by unfold low; omega
  have hln := hlow now n0
  have hlx := hlow _ (hC nb)
  have hly := hlow _ (hC (nb + k.steps.toNat))
  have key : 0 ≤ (stp nb k C now).1.steps ∧ (stp nb k C now).1.steps ≤ 1000000 ∧ 0 ≤ (stp nb k C now).1.seen ∧ (stp nb k C now).1.seen ≤ 16777215 ∧ 0 ≤ (stp nb k C now).1.ph ∧ (stp nb k C now).1.ph ≤ 2 ∧ (k.so = 2 → 1 ≤ (stp nb k C now).1.steps → (stp nb k C now).1.ph = 0 → (stp nb k C now).1.seen < 16777215) := by
    have h1 := h.s0; have h2 := h.s1; have h3 := h.e0; have h4 := h.e1; have h5 := h.p0; have h6 := h.p1; have h7 := h.sw
    have f1 := fin_same { k with steps := k.steps + 1 } (low (C.getD nb 0)) (low (C.getD nb 0)); have f2 := fin_same { k with steps := k.steps + 1 } k.seen (low (C.getD nb 0) - 1); have f3 := fin_same { k with steps := k.steps + 1 } k.seen k.seen
    have f4 := fin_same { k with steps := k.steps + 1, seen := if k.steps = 0 then low now else k.seen } (if k.steps = 0 then low now else k.seen) (low now)
    have f6 := fin_same { k with steps := k.steps + 1 } k.seen (low now)
    have f7 := fin_same { k with steps := k.steps + 1, seen := low now } (low now) (low now)
    have f5 : 0 ≤ (if k.steps = 0 then low now else k.seen) ∧ (if k.steps = 0 then low now else k.seen) ≤ 16777215 := by split <;> omega
    unfold stp
    simp only at f1 f2 f3 f4 f6 f7
    repeat' split
    all_goals simp only
    all_goals first | omega | (split <;> omega)
  exact ⟨by rw [e1, e2]; exact h.lay, by rw [e1]; exact h.nt, by rw [e6, e1]; exact h.len, by rw [e5]; exact h.w0, by rw [e5, e1]; exact h.w1, key.1, key.2.1, key.2.2.1, key.2.2.2.1, by rw [e3]; exact h.o0, by rw [e3]; exact h.o1, by rw [e4]; exact h.d0, by rw [e4]; exact h.d1, key.2.2.2.2.1, key.2.2.2.2.2.1, by rw [e3]; exact key.2.2.2.2.2.2⟩

section
variable {nb : Nat} {k : Tk} {C : List Int} {now : Int}
theorem stp_c0 (hp : k.ph = 0) (h : k.so = 0) : stp nb k C now = (fin { k with steps := k.steps + 1 } (low (C.getD nb 0)) (low (C.getD nb 0)), C.set nb (add64 (C.getD nb 0) 1), some ⟨k.who, 3, nb, C.getD nb 0, add64 (C.getD nb 0) 1, true⟩) := by
  unfold stp
  rw [if_pos hp, if_pos h]
theorem stp_c1l (hp : k.ph = 0) (h : k.so = 1) (hl : k.steps < k.t) : stp nb k C now = ({ k with steps := k.steps + 1, seen := max k.seen (low (C.getD (nb + k.steps.toNat) 0)) }, C, some ⟨k.who, 0, (nb + k.steps.toNat : Nat), C.getD (nb + k.steps.toNat) 0, C.getD (nb + k.steps.toNat) 0, true⟩) := by
  unfold stp
  rw [if_pos hp, if_neg (by omega), if_pos h, if_pos hl]
theorem stp_c1d (hp : k.ph = 0) (h : k.so = 1) (hl : ¬ k.steps < k.t) (hs : k.seen + 1 < 16777215) : stp nb k C now = ({ k with steps := k.steps + 1, ph := 1, lo := k.seen + 1, hi := k.seen + 1 }, C.set (nb + k.who.toNat) (k.seen + 1), some ⟨k.who, 1, (nb + k.who.toNat : Nat), C.getD (nb + k.who.toNat) 0, k.seen + 1, true⟩) := by
  unfold stp
  rw [if_pos hp, if_neg (by omega), if_pos h, if_neg hl, if_pos hs]
theorem stp_c1f (hp : k.ph = 0) (h : k.so = 1) (hl : ¬ k.steps < k.t) (hs : ¬ k.seen + 1 < 16777215) : stp nb k C now = ({ k with steps := k.steps + 1, ph := 2 }, C, none) := by
  unfold stp
  rw [if_pos hp, if_neg (by omega), if_pos h, if_neg hl, if_neg hs]
theorem stp_c20 (hp : k.ph = 0) (h : k.so = 2) (hs : k.steps = 0) : stp nb k C now = ({ k with steps := k.steps + 1, seen := low (C.getD nb 0), ph := if low (C.getD nb 0) = 16777215 then 2 else 0 }, C, some ⟨k.who, 0, nb, C.getD nb 0, C.getD nb 0, true⟩) := by
  unfold stp
  rw [if_pos hp, if_neg (by omega), if_neg (by omega), if_pos h, if_pos hs]
theorem stp_c21s (hp : k.ph = 0) (h : k.so = 2) (hs : k.steps = 1) (hx : low (C.getD nb 0) = k.seen) : stp nb k C now = ({ k with steps := k.steps + 1 }, C, some ⟨k.who, 0, nb, C.getD nb 0, C.getD nb 0, true⟩) := by
  unfold stp
  rw [if_pos hp, if_neg (by omega), if_neg (by omega), if_pos h, if_neg (by omega), if_pos hs, if_pos hx]
theorem stp_c21d (hp : k.ph = 0) (h : k.so = 2) (hs : k.steps = 1) (hx : ¬ low (C.getD nb 0) = k.seen) : stp nb k C now = (fin { k with steps := k.steps + 1 } k.seen (low (C.getD nb 0) - 1), C, some ⟨k.who, 0, nb, C.getD nb 0, C.getD nb 0, true⟩) := by
  unfold stp
  rw [if_pos hp, if_neg (by omega), if_neg (by omega), if_pos h, if_neg (by omega), if_pos hs, if_neg hx]
theorem stp_c22y (hp : k.ph = 0) (h : k.so = 2) (hs : k.steps = 2) (hx : C.getD nb 0 = k.seen) : stp nb k C now = (fin { k with steps := k.steps + 1 } k.seen k.seen, C.set nb (k.seen + 1), some ⟨k.who, 2, nb, C.getD nb 0, k.seen + 1, true⟩) := by
  unfold stp
  rw [if_pos hp, if_neg (by omega), if_neg (by omega), if_pos h, if_neg (by omega), if_neg (by omega), if_pos hs, if_pos hx]
theorem stp_c22n (hp : k.ph = 0) (h : k.so = 2) (hs : k.steps = 2) (hx : ¬ C.getD nb 0 = k.seen) : stp nb k C now = ({ k with steps := k.steps + 1 }, C, some ⟨k.who, 2, nb, C.getD nb 0, C.getD nb 0, false⟩) := by
  unfold stp
  rw [if_pos hp, if_neg (by omega), if_neg (by omega), if_pos h, if_neg (by omega), if_neg (by omega), if_pos hs, if_neg hx]
theorem stp_c23 (hp : k.ph = 0) (h : k.so = 2) (hs : 3 ≤ k.steps) : stp nb k C now = (fin { k with steps := k.steps + 1 } k.seen (low (C.getD nb 0) - 1), C, some ⟨k.who, 0, nb, C.getD nb 0, C.getD nb 0, true⟩) := by
  unfold stp
  rw [if_pos hp, if_neg (by omega), if_neg (by omega), if_pos h, if_neg (by omega), if_neg (by omega), if_neg (by omega)]
theorem stp_c3 (hp : k.ph = 0) (h : k.so = 3 ∨ k.so = 4 ∧ k.d < k.steps) : stp nb k C now = (fin { k with steps := k.steps + 1, seen := if k.steps = 0 then low now else k.seen } (if k.steps = 0 then low now else k.seen) (low now), C, none) := by
  unfold stp
  rw [if_pos hp, if_neg (by omega), if_neg (by omega), if_neg (by omega), if_pos (by omega)]
theorem stp_c4 (hp : k.ph = 0) (h : k.so = 4) (hd : k.steps ≤ k.d) : stp nb k C now = ({ k with steps := k.steps + 1, seen := if k.steps = 0 then low now else k.seen }, C, none) := by
  unfold stp
  rw [if_pos hp, if_neg (by omega), if_neg (by omega), if_neg (by omega), if_neg (by omega)]
end

theorem fin_yes' (k : Tk) {x y : Int} (h : 0 ≤ x ∧ x ≤ y ∧ y < 16777215) : fin k x y = { k with ph := 1, lo := x, hi := y } := if_pos h

/-- How many steps a stamp takes where nobody else does any. -/
def alone (t so d : Int) : Int := if so = 2 then 3 else if so = 0 then 1 else if so = 1 then t + 1 else if so = 3 then 1 else d + 2

/-- A stamp that is made alone, from cells that are nought, n steps on. -/
structure Solo (nb : Nat) (m : Int) (T so d now : Int) (n : Nat) (k : Tk) (C : List Int) : Prop where
  ok : k.Ok nb m C
  ht : k.t = T
  hso : k.so = so
  hd : k.d = d
  le : (n : Int) ≤ alone T so d
  steps : k.steps = n
  nn : ∀ j, 0 ≤ C.getD j 0
  going : (n : Int) < alone T so d → k.ph = 0 ∧ (so ≤ 2 → k.seen = 0) ∧ (3 ≤ so → n ≠ 0 → k.seen = now) ∧ ∀ j, C.getD j 0 = 0
  done : (n : Int) = alone T so d → k.ph = 1

set_option maxHeartbeats 1000000 in
theorem solo_step {nb : Nat} {m T so d now : Int} {n : Nat} {k : Tk} {C : List Int} (h : Solo nb m T so d now n k C) (hlt : (n : Int) < alone T so d) (n0 : 0 ≤ now) (n1 : now + n < 16777215) (hT : T ≤ 4) (hd : d ≤ 3)
    (hC' : ∀ j, 0 ≤ (stp nb k C (now + n)).2.1.getD j 0) : Solo nb m T so d now (n + 1) (stp nb k C (now + n)).1 (stp nb k C (now + n)).2.1 := by
  obtain ⟨hp, hg1, hg2, hz⟩ := h.going hlt
  obtain ⟨e1, e2, e3, e4, e5, e6⟩ := stp_same nb k C (now + n)
  have ho0 := h.ok.o0
  have ho1 := h.ok.o1
  have hso := h.hso
  have hst := h.steps
  have hkt := h.ht
  have hkd := h.hd
  have hz0 := hz nb
  have hal : alone T so d ≤ 5 := by unfold alone; repeat' split
                                    all_goals omega
  have ln : low now = now := by unfold low; omega
  have lnn : low (now + n) = now + n := by unfold low; omega
  have l0 : low 0 = 0 := by decide
  have ok' := stp_ok nb m k C (now + n) h.ok (by omega) (by omega) h.nn
  have key : (stp nb k C (now + n)).1.steps = ((n + 1 : Nat) : Int) ∧ (((n + 1 : Nat) : Int) < alone T so d → (stp nb k C (now + n)).1.ph = 0 ∧ (so ≤ 2 → (stp nb k C (now + n)).1.seen = 0) ∧ (3 ≤ so → n + 1 ≠ 0 → (stp nb k C (now + n)).1.seen = now) ∧ (stp nb k C (now + n)).2.1 = C) ∧ (((n + 1 : Nat) : Int) = alone T so d → (stp nb k C (now + n)).1.ph = 1) := by
    unfold stp
    rw [if_pos hp]
    rcases (by omega : so = 0 ∨ so = 1 ∨ so = 2 ∨ so = 3 ∨ so = 4) with rfl | rfl | rfl | rfl | rfl
    · have ha : alone T 0 d = 1 := rfl
      rw [if_pos hso, hz0, l0, fin_yes' _ (by omega)]
      refine ⟨by simp only; omega, fun h => by omega, fun _ => rfl⟩
    · have ha : alone T 1 d = T + 1 := rfl
      rw [if_neg (by omega), if_pos hso]
      by_cases hlt2 : k.steps < k.t
      · rw [if_pos hlt2, hz]
        have hs := hg1 (by omega)
        refine ⟨by simp only; omega, fun h => ⟨hp, fun _ => by simp only [hs, l0]; rfl, fun h => by omega, rfl⟩, fun h => by omega⟩
      · rw [if_neg hlt2, if_pos (by have := hg1 (by omega); omega)]
        refine ⟨by simp only; omega, fun h => by omega, fun _ => rfl⟩
    · have ha : alone T 2 d = 3 := rfl
      have hs := hg1 (by omega)
      rw [if_neg (by omega), if_neg (by omega), if_pos hso, hz0, l0]
      by_cases h0 : k.steps = 0
      · rw [if_pos h0]
        refine ⟨by simp only; omega, fun h => ⟨rfl, fun _ => rfl, fun h => by omega, rfl⟩, fun h => by omega⟩
      · rw [if_neg h0]
        by_cases h1 : k.steps = 1
        · rw [if_pos h1, if_pos hs.symm]
          refine ⟨by simp only; omega, fun h => ⟨hp, fun _ => hs, fun h => by omega, rfl⟩, fun h => by omega⟩
        · rw [if_neg h1, if_pos (by omega), if_pos hs.symm, fin_yes' _ (by omega)]
          refine ⟨by simp only; omega, fun h => by omega, fun _ => rfl⟩
    · have ha : alone T 3 d = 1 := rfl
      rw [if_neg (by omega), if_neg (by omega), if_neg (by omega), if_pos (.inl hso), if_pos (by omega), lnn, fin_yes' _ (by omega)]
      refine ⟨by simp only; omega, fun h => by omega, fun _ => rfl⟩
    · have ha : alone T 4 d = d + 2 := rfl
      have hseen : (if k.steps = 0 then low (now + n) else k.seen) = now := by
        split
        · rw [lnn]; omega
        · exact hg2 (by omega) (by omega)
      rw [if_neg (by omega), if_neg (by omega), if_neg (by omega), hseen]
      by_cases hd2 : k.so = 3 ∨ k.d < k.steps
      · rw [if_pos hd2, lnn, fin_yes' _ (by omega)]
        refine ⟨by simp only; omega, fun h => by omega, fun _ => rfl⟩
      · rw [if_neg hd2]
        refine ⟨by simp only; omega, fun h => ⟨hp, fun h => by omega, fun _ _ => rfl, rfl⟩, fun h => by omega⟩
  refine ⟨ok', e1.trans h.ht, e3.trans h.hso, e4.trans h.hd, by omega, key.1, hC', fun h2 => ?_, key.2.2⟩
  obtain ⟨k1, k2, k3, k4⟩ := key.2.1 h2
  exact ⟨k1, k2, k3, fun j => by rw [k4]; exact hz j⟩
end

section
open Go.RowKit
set_option linter.unusedVariables false

theorem IsMem.nn {base : Nat} {w : World} {p c : Nat} {v : Value} {C : List Int} {L : List Ev} (h : IsMem base w p c v C L) (j : Nat) : 0 ≤ C.getD j 0 := by
  by_cases hj : j < C.length
  · exact (h.numAt (getD_at hj)).1
  · rw [List.getD_eq_getElem?_getD, List.getElem?_eq_none (by omega)]
    decide
theorem Lay.of4 {t : Int} (t1 : 1 ≤ t) (t2 : t ≤ 4) : Lay t 1 t := ⟨by omega, t1, by omega, by omega, by omega, by omega, by omega, by omega⟩
theorem zeros (n j : Nat) : (List.replicate n (0 : Int)).getD j 0 = 0 := by
  rw [List.getD_eq_getElem?_getD, List.getElem?_replicate]
  split <;> rfl

theorem most_alone {T so d : Int} (h0 : 0 ≤ so) (h4 : so ≤ 4) : (so = 2 → most T so d = 4 ∧ alone T so d = 3) ∧ (so ≠ 2 → alone T so d = most T so d) := by
  unfold most alone
  rcases (by omega : so = 0 ∨ so = 1 ∨ so = 2 ∨ so = 3 ∨ so = 4) with rfl | rfl | rfl | rfl | rfl
  all_goals simp

theorem solo_0 {T so d who now : Int} {nb : Nat} (t1 : 1 ≤ T) (t2 : T ≤ 4) (s0 : 0 ≤ so) (s4 : so ≤ 4) (d0 : 0 ≤ d) (d3 : d ≤ 3) (w0 : 0 ≤ who) (w1 : who < T) (hnb : (nb : Int) = 3 * T) :
    Solo nb T T so d now 0 (tk0 T 1 so d who) (List.replicate (nb + T.toNat) 0) := by
  have ha : 1 ≤ alone T so d := by unfold alone; repeat' split
                                   all_goals omega
  have hok : Tk.Ok (tk0 T 1 so d who) nb T (List.replicate (nb + T.toNat) 0) := ⟨Lay.of4 t1 t2, by show (nb : Int) = 2 * T + T; omega, by simp [tk0], w0, w1, Int.le_refl _, by show (0 : Int) ≤ 1000000; decide, Int.le_refl _, by show (0 : Int) ≤ 16777215; decide, s0, s4, d0, by show d ≤ 100; omega, Int.le_refl _, by show (0 : Int) ≤ 2; decide, fun _ h => by exact absurd h (by show ¬ (1 : Int) ≤ 0; decide)⟩
  exact ⟨hok, rfl, rfl, rfl, by omega, rfl, fun j => by rw [zeros]; exact Int.le_refl _, fun _ => ⟨rfl, fun _ => rfl, fun _ h => absurd rfl h, fun j => zeros _ j⟩, fun h => by omega⟩

end

end Go.Proofs.YtpfjommkjkbonaaGreat
