/-
  The contract of look of package claim. No condition but that numbers fit their kinds.
-/
import Derived.Test.YtoogdfjlodchhaaClaimCalls
namespace Go.Proofs.Ytoogdfjlodchhaa
open Go.RowKit
set_option linter.unusedVariables false

section
variable (base : Nat) (w : World) (b p c : Nat) (v : Value) (C : List Int) (L : List Ev) (k : Cl) (n m : Int) (hz : Nat)

set_option maxHeartbeats 4000000 in
theorem look_0 (x : Int) (h4 : x / 8 % 8192 = 8191) (hk : k.Ok n m hz C) (j : Nat) (hsl : k.slot = (j : Int)) (hx : C[j]? = some x) (hT : IsObj w b k.list) (hM : IsMem base w p c v C L) (ha : ¬ Foot p c v b) (hb : base ≤ w.heap.size) (hL : L.length < 1000000000) :
    Calls Try.prog 76 #[pt b, pt p] w (ClPost base w b p c v (k.look m x) C (L ++ [⟨k.who, 0, j, x, x, true⟩]) (.returned (.tuple #[]))) := by
  obtain ⟨hl, hhz, hlen, w0, w1, hm, m0, m1, s0, s1, g0, g1⟩ := hk
  have hnx := hM.numAt hx
  have hU := fun W => unpack_any x W hnx.1 hnx.2
  have HS := Lib.hid (Does.refl (B := (· = b)) hM (fun i hi => hi ▸ ha) hb)
  have hA : AtHead w.drew b k.t k.s k.so k.d k.who k.slot := hT.drew.head
  unfold Cl.look Cl.word
  generalize x % 4 = xs at hU h4 ⊢
  generalize x / 4 % 2 = xe at hU h4 ⊢
  generalize x / 8 % 8192 = xg at hU h4 ⊢
  generalize x / 65536 % 16777216 = xl at hU h4 ⊢
  generalize x / 1099511627776 = xh at hU h4 ⊢
  have HU := Lib.hid hU
  have HT := Lib.hid hT
  have HX := Lib.hid hx
  have HP := Lib.hid (fun W (hW : IsObj W b { k with ws := xs, we := xe, wg := xg, wl := xl, wh := xh }.list) => pass_any W b { k with ws := xs, we := xe, wg := xg, wl := xl, wh := xh } n m hl w0 w1 hm m0 m1 s0 s1 hW)
  have HSL := Lib.hid hsl
  clear hU hT hx hM ha hm hhz hlen hsl
  have h := h4
  clear h4
  rw [if_pos h]
  have q1 : (xg == 8191) = true := by simp [h]
  clear h
  go_enter Try.func76, Try.ntmps76
  go_wp2_with fail
  refine wp_region_seqS ((fun w' => AtHead w' b k.t k.s k.so k.d k.who k.slot)) ((0, true) :: (1, true) :: (2, true) :: (3, true) :: (4, true) :: (5, true) :: (6, true) :: (7, true) :: (8, true) :: (9, true) :: (10, true) :: (11, true) :: (12, true) :: (13, true) :: (14, false) :: (15, false) :: (16, false) :: (17, true) :: (18, true) :: (19, false) :: []) (by kernel_rfl) (by kernel_rfl) (by kernel_rfl) (by decide) (fun _ _ _ _ _ h => h) (hA) ?_
  repeat (first | (refine seq_take (v := ?_) rfl ?_ ?_ ?_; rotate_left 1; rfl; (focus (intro wS hSw; obtain ⟨c0, c1, c2, c3, c4, c5⟩ := hSw; go_simp; first | done | with_reducible rfl)); (try simp only [Act.put, List.setIfInBounds_toArray, List.set_cons_zero, List.set_cons_succ])) | (refine seq_skip rfl ?_ ?_; rfl; (try simp only [Act.put, List.setIfInBounds_toArray, List.set_cons_zero, List.set_cons_succ])))
  refine seq_run rfl (fun K hK => ?_)
  go_simp
  go_at_call 32
  refine (cword_any _ _ _ _ _ _).mono ?_
  rintro r w1 ⟨rfl, hb1⟩
  (try go_wp2_with fail)
  replace HT := Lib.hid (HT.out.drew.later hb1)
  replace HS := Lib.hid (HS.out.drew.later hb1)
  clear hb1 hA
  refine hK.out _ _ (HT.out.head) (fun _ => ?_)
  (try simp only [Act.put, List.setIfInBounds_toArray, List.set_cons_zero, List.set_cons_succ])
  clear hK K
  repeat (first | (refine seq_take (v := ?_) rfl ?_ ?_ ?_; rotate_left 1; rfl; (focus (intro wS hSw; obtain ⟨c0, c1, c2, c3, c4, c5⟩ := hSw; go_simp; first | done | with_reducible rfl)); (try simp only [Act.put, List.setIfInBounds_toArray, List.set_cons_zero, List.set_cons_succ])) | (refine seq_skip rfl ?_ ?_; rfl; (try simp only [Act.put, List.setIfInBounds_toArray, List.set_cons_zero, List.set_cons_succ])))
  refine seq_run rfl (fun K hK => ?_)
  go_simp
  go_at_call 89
  refine (load_at base _ p c _ _ _ k.who _ j x HSL.out HS.out.mem HX.out HS.out.size hL).mono ?_
  rintro r w2 ⟨rfl, v2, hT2⟩
  (try go_wp2_with fail)
  have hlt1 := HT.out.lt
  replace HT := Lib.hid (HT.out.keep hT2.keep (HS.out.apart b rfl))
  replace HS := Lib.hid (HS.out.cells (fun i hi => hi ▸ hlt1) hT2)
  clear hT2
  refine hK.out _ _ (HT.out.head) (fun _ => ?_)
  (try simp only [Act.put, List.setIfInBounds_toArray, List.set_cons_zero, List.set_cons_succ])
  clear hK K
  repeat (first | (refine seq_take (v := ?_) rfl ?_ ?_ ?_; rotate_left 1; rfl; (focus (intro wS hSw; obtain ⟨c0, c1, c2, c3, c4, c5⟩ := hSw; go_simp; first | done | with_reducible rfl)); (try simp only [Act.put, List.setIfInBounds_toArray, List.set_cons_zero, List.set_cons_succ])) | (refine seq_skip rfl ?_ ?_; rfl; (try simp only [Act.put, List.setIfInBounds_toArray, List.set_cons_zero, List.set_cons_succ])))
  refine seq_run rfl (fun K hK => ?_)
  go_simp
  go_at_call 45
  refine (HU.out _).mono ?_
  rintro r w3 ⟨rfl, hb3⟩
  (try go_wp2_with fail)
  replace HT := Lib.hid (HT.out.later hb3)
  replace HS := Lib.hid (HS.out.later hb3)
  clear hb3
  refine hK.out _ _ (HT.out.head) (fun _ => ?_)
  (try simp only [Act.put, List.setIfInBounds_toArray, List.set_cons_zero, List.set_cons_succ])
  clear hK K
  obtain ⟨c0, c1, c2, c3, c4, c5, c6, c7, c8, c9, c10, c11, c12⟩ := HT.out.cl
  have f7 := HT.out.fz 7
  have f8 := HT.out.fz 8
  have f9 := HT.out.fz 9
  have f10 := HT.out.fz 10
  have f11 := HT.out.fz 11
  repeat (first | (refine seq_take (v := ?_) rfl ?_ ?_ ?_; rotate_left 1; rfl; (focus (intro wS hSw; obtain ⟨x0, x1, x2, x3, x4, x5⟩ := hSw; go_simp; first | done | with_reducible rfl)); (try simp only [Act.put, List.setIfInBounds_toArray, List.set_cons_zero, List.set_cons_succ])) | (refine seq_skip rfl ?_ ?_; rfl; (try simp only [Act.put, List.setIfInBounds_toArray, List.set_cons_zero, List.set_cons_succ])))
  refine seq_run rfl (fun K hK => ?_)
  go_simp
  have HT4 := Lib.hid (((((HT.out.set 7 (i64 xs)).set 8 (i64 xe)).set 9 (i64 xg)).set 10 (i64 xl)).set 11 (i64 xh))
  have HS4 := Lib.hid (HS.out.own ((((((Keep.refl _ _).own 7 (i64 xs)).own 8 (i64 xe)).own 9 (i64 xg)).own 10 (i64 xl)).own 11 (i64 xh)))
  clear c0 c1 c2 c3 c4 c5 c6 c7 c8 c9 c10 c11 c12 f7 f8 f9 f10 f11
  refine hK.out _ _ (HT4.out.head) (fun _ => ?_)
  (try simp only [Act.put, List.setIfInBounds_toArray, List.set_cons_zero, List.set_cons_succ])
  clear hK K
  refine seq_done ?_
  obtain ⟨c0, c1, c2, c3, c4, c5, c6, c7, c8, c9, c10, c11, c12⟩ := HT4.out.cl (k := { k with ws := xs, we := xe, wg := xg, wl := xl, wh := xh })
  go_wp2_with fail
  refine (HP.out _ HT4.out).mono ?_
  rintro r w5 ⟨rfl, hT5, hK5⟩
  go_wp2
  go_end0
  exact ⟨rfl, _, HS4.out.own hK5, hT5⟩

set_option maxHeartbeats 4000000 in
theorem look_1 (x : Int) (h4 : x / 8 % 8192 ≠ 8191 ∧ x % 4 = 0) (hk : k.Ok n m hz C) (j : Nat) (hsl : k.slot = (j : Int)) (hx : C[j]? = some x) (hT : IsObj w b k.list) (hM : IsMem base w p c v C L) (ha : ¬ Foot p c v b) (hb : base ≤ w.heap.size) (hL : L.length < 1000000000) :
    Calls Try.prog 76 #[pt b, pt p] w (ClPost base w b p c v (k.look m x) C (L ++ [⟨k.who, 0, j, x, x, true⟩]) (.returned (.tuple #[]))) := by
  obtain ⟨hl, hhz, hlen, w0, w1, hm, m0, m1, s0, s1, g0, g1⟩ := hk
  have hnx := hM.numAt hx
  have hU := fun W => unpack_any x W hnx.1 hnx.2
  have HS := Lib.hid (Does.refl (B := (· = b)) hM (fun i hi => hi ▸ ha) hb)
  have hA : AtHead w.drew b k.t k.s k.so k.d k.who k.slot := hT.drew.head
  unfold Cl.look Cl.word
  generalize x % 4 = xs at hU h4 ⊢
  generalize x / 4 % 2 = xe at hU h4 ⊢
  generalize x / 8 % 8192 = xg at hU h4 ⊢
  generalize x / 65536 % 16777216 = xl at hU h4 ⊢
  generalize x / 1099511627776 = xh at hU h4 ⊢
  have HU := Lib.hid hU
  have HT := Lib.hid hT
  have HX := Lib.hid hx
  have HP := Lib.hid (fun W (hW : IsObj W b { k with ws := xs, we := xe, wg := xg, wl := xl, wh := xh }.list) => pass_any W b { k with ws := xs, we := xe, wg := xg, wl := xl, wh := xh } n m hl w0 w1 hm m0 m1 s0 s1 hW)
  have HSL := Lib.hid hsl
  clear hU hT hx hM ha hm hhz hlen hsl
  obtain ⟨h, h'⟩ := h4
  rw [if_neg h, if_pos h']
  have q1 : (xg == 8191) = false := by simp [h]
  have q2 : (xs == 0) = true := by simp [h']
  clear h h'
  go_enter Try.func76, Try.ntmps76
  go_wp2_with fail
  refine wp_region_seqS ((fun w' => AtHead w' b k.t k.s k.so k.d k.who k.slot)) ((0, true) :: (1, true) :: (2, true) :: (3, true) :: (4, true) :: (5, true) :: (6, true) :: (7, true) :: (8, true) :: (9, true) :: (10, true) :: (11, true) :: (12, true) :: (13, true) :: (14, false) :: (15, false) :: (16, false) :: (17, true) :: (18, true) :: (19, false) :: []) (by kernel_rfl) (by kernel_rfl) (by kernel_rfl) (by decide) (fun _ _ _ _ _ h => h) (hA) ?_
  repeat (first | (refine seq_take (v := ?_) rfl ?_ ?_ ?_; rotate_left 1; rfl; (focus (intro wS hSw; obtain ⟨c0, c1, c2, c3, c4, c5⟩ := hSw; go_simp; first | done | with_reducible rfl)); (try simp only [Act.put, List.setIfInBounds_toArray, List.set_cons_zero, List.set_cons_succ])) | (refine seq_skip rfl ?_ ?_; rfl; (try simp only [Act.put, List.setIfInBounds_toArray, List.set_cons_zero, List.set_cons_succ])))
  refine seq_run rfl (fun K hK => ?_)
  go_simp
  go_at_call 32
  refine (cword_any _ _ _ _ _ _).mono ?_
  rintro r w1 ⟨rfl, hb1⟩
  (try go_wp2_with fail)
  replace HT := Lib.hid (HT.out.drew.later hb1)
  replace HS := Lib.hid (HS.out.drew.later hb1)
  clear hb1 hA
  refine hK.out _ _ (HT.out.head) (fun _ => ?_)
  (try simp only [Act.put, List.setIfInBounds_toArray, List.set_cons_zero, List.set_cons_succ])
  clear hK K
  repeat (first | (refine seq_take (v := ?_) rfl ?_ ?_ ?_; rotate_left 1; rfl; (focus (intro wS hSw; obtain ⟨c0, c1, c2, c3, c4, c5⟩ := hSw; go_simp; first | done | with_reducible rfl)); (try simp only [Act.put, List.setIfInBounds_toArray, List.set_cons_zero, List.set_cons_succ])) | (refine seq_skip rfl ?_ ?_; rfl; (try simp only [Act.put, List.setIfInBounds_toArray, List.set_cons_zero, List.set_cons_succ])))
  refine seq_run rfl (fun K hK => ?_)
  go_simp
  go_at_call 89
  refine (load_at base _ p c _ _ _ k.who _ j x HSL.out HS.out.mem HX.out HS.out.size hL).mono ?_
  rintro r w2 ⟨rfl, v2, hT2⟩
  (try go_wp2_with fail)
  have hlt1 := HT.out.lt
  replace HT := Lib.hid (HT.out.keep hT2.keep (HS.out.apart b rfl))
  replace HS := Lib.hid (HS.out.cells (fun i hi => hi ▸ hlt1) hT2)
  clear hT2
  refine hK.out _ _ (HT.out.head) (fun _ => ?_)
  (try simp only [Act.put, List.setIfInBounds_toArray, List.set_cons_zero, List.set_cons_succ])
  clear hK K
  repeat (first | (refine seq_take (v := ?_) rfl ?_ ?_ ?_; rotate_left 1; rfl; (focus (intro wS hSw; obtain ⟨c0, c1, c2, c3, c4, c5⟩ := hSw; go_simp; first | done | with_reducible rfl)); (try simp only [Act.put, List.setIfInBounds_toArray, List.set_cons_zero, List.set_cons_succ])) | (refine seq_skip rfl ?_ ?_; rfl; (try simp only [Act.put, List.setIfInBounds_toArray, List.set_cons_zero, List.set_cons_succ])))
  refine seq_run rfl (fun K hK => ?_)
  go_simp
  go_at_call 45
  refine (HU.out _).mono ?_
  rintro r w3 ⟨rfl, hb3⟩
  (try go_wp2_with fail)
  replace HT := Lib.hid (HT.out.later hb3)
  replace HS := Lib.hid (HS.out.later hb3)
  clear hb3
  refine hK.out _ _ (HT.out.head) (fun _ => ?_)
  (try simp only [Act.put, List.setIfInBounds_toArray, List.set_cons_zero, List.set_cons_succ])
  clear hK K
  obtain ⟨c0, c1, c2, c3, c4, c5, c6, c7, c8, c9, c10, c11, c12⟩ := HT.out.cl
  have f7 := HT.out.fz 7
  have f8 := HT.out.fz 8
  have f9 := HT.out.fz 9
  have f10 := HT.out.fz 10
  have f11 := HT.out.fz 11
  repeat (first | (refine seq_take (v := ?_) rfl ?_ ?_ ?_; rotate_left 1; rfl; (focus (intro wS hSw; obtain ⟨x0, x1, x2, x3, x4, x5⟩ := hSw; go_simp; first | done | with_reducible rfl)); (try simp only [Act.put, List.setIfInBounds_toArray, List.set_cons_zero, List.set_cons_succ])) | (refine seq_skip rfl ?_ ?_; rfl; (try simp only [Act.put, List.setIfInBounds_toArray, List.set_cons_zero, List.set_cons_succ])))
  refine seq_run rfl (fun K hK => ?_)
  go_simp
  have HT4 := Lib.hid (((((HT.out.set 7 (i64 xs)).set 8 (i64 xe)).set 9 (i64 xg)).set 10 (i64 xl)).set 11 (i64 xh))
  have HS4 := Lib.hid (HS.out.own ((((((Keep.refl _ _).own 7 (i64 xs)).own 8 (i64 xe)).own 9 (i64 xg)).own 10 (i64 xl)).own 11 (i64 xh)))
  clear c0 c1 c2 c3 c4 c5 c6 c7 c8 c9 c10 c11 c12 f7 f8 f9 f10 f11
  refine hK.out _ _ (HT4.out.head) (fun _ => ?_)
  (try simp only [Act.put, List.setIfInBounds_toArray, List.set_cons_zero, List.set_cons_succ])
  clear hK K
  refine seq_done ?_
  obtain ⟨c0, c1, c2, c3, c4, c5, c6, c7, c8, c9, c10, c11, c12⟩ := HT4.out.cl (k := { k with ws := xs, we := xe, wg := xg, wl := xl, wh := xh })
  have ff := HT4.out.fz 12
  go_wp2
  go_end0
  exact ⟨rfl, _, HS4.out.own ((Keep.refl _ _).own 12 _), HT4.out.set 12 (.int .i64 1)⟩

set_option maxHeartbeats 4000000 in
theorem look_2 (x : Int) (h4 : x / 8 % 8192 ≠ 8191 ∧ x % 4 ≠ 0 ∧ x % 4 = 2) (hk : k.Ok n m hz C) (j : Nat) (hsl : k.slot = (j : Int)) (hx : C[j]? = some x) (hT : IsObj w b k.list) (hM : IsMem base w p c v C L) (ha : ¬ Foot p c v b) (hb : base ≤ w.heap.size) (hL : L.length < 1000000000) :
    Calls Try.prog 76 #[pt b, pt p] w (ClPost base w b p c v (k.look m x) C (L ++ [⟨k.who, 0, j, x, x, true⟩]) (.returned (.tuple #[]))) := by
  obtain ⟨hl, hhz, hlen, w0, w1, hm, m0, m1, s0, s1, g0, g1⟩ := hk
  have hnx := hM.numAt hx
  have hU := fun W => unpack_any x W hnx.1 hnx.2
  have HS := Lib.hid (Does.refl (B := (· = b)) hM (fun i hi => hi ▸ ha) hb)
  have hA : AtHead w.drew b k.t k.s k.so k.d k.who k.slot := hT.drew.head
  unfold Cl.look Cl.word
  generalize x % 4 = xs at hU h4 ⊢
  generalize x / 4 % 2 = xe at hU h4 ⊢
  generalize x / 8 % 8192 = xg at hU h4 ⊢
  generalize x / 65536 % 16777216 = xl at hU h4 ⊢
  generalize x / 1099511627776 = xh at hU h4 ⊢
  have HU := Lib.hid hU
  have HT := Lib.hid hT
  have HX := Lib.hid hx
  have HP := Lib.hid (fun W (hW : IsObj W b { k with ws := xs, we := xe, wg := xg, wl := xl, wh := xh }.list) => pass_any W b { k with ws := xs, we := xe, wg := xg, wl := xl, wh := xh } n m hl w0 w1 hm m0 m1 s0 s1 hW)
  have HSL := Lib.hid hsl
  clear hU hT hx hM ha hm hhz hlen hsl
  obtain ⟨h, h', h2⟩ := h4
  rw [if_neg h, if_neg h', if_pos h2]
  have q1 : (xg == 8191) = false := by simp [h]
  have q2 : (xs == 0) = false := by simp [h']
  have q3 : (xs == 2) = true := by simp [h2]
  clear h h' h2
  go_enter Try.func76, Try.ntmps76
  go_wp2_with fail
  refine wp_region_seqS ((fun w' => AtHead w' b k.t k.s k.so k.d k.who k.slot)) ((0, true) :: (1, true) :: (2, true) :: (3, true) :: (4, true) :: (5, true) :: (6, true) :: (7, true) :: (8, true) :: (9, true) :: (10, true) :: (11, true) :: (12, true) :: (13, true) :: (14, false) :: (15, false) :: (16, false) :: (17, true) :: (18, true) :: (19, false) :: []) (by kernel_rfl) (by kernel_rfl) (by kernel_rfl) (by decide) (fun _ _ _ _ _ h => h) (hA) ?_
  repeat (first | (refine seq_take (v := ?_) rfl ?_ ?_ ?_; rotate_left 1; rfl; (focus (intro wS hSw; obtain ⟨c0, c1, c2, c3, c4, c5⟩ := hSw; go_simp; first | done | with_reducible rfl)); (try simp only [Act.put, List.setIfInBounds_toArray, List.set_cons_zero, List.set_cons_succ])) | (refine seq_skip rfl ?_ ?_; rfl; (try simp only [Act.put, List.setIfInBounds_toArray, List.set_cons_zero, List.set_cons_succ])))
  refine seq_run rfl (fun K hK => ?_)
  go_simp
  go_at_call 32
  refine (cword_any _ _ _ _ _ _).mono ?_
  rintro r w1 ⟨rfl, hb1⟩
  (try go_wp2_with fail)
  replace HT := Lib.hid (HT.out.drew.later hb1)
  replace HS := Lib.hid (HS.out.drew.later hb1)
  clear hb1 hA
  refine hK.out _ _ (HT.out.head) (fun _ => ?_)
  (try simp only [Act.put, List.setIfInBounds_toArray, List.set_cons_zero, List.set_cons_succ])
  clear hK K
  repeat (first | (refine seq_take (v := ?_) rfl ?_ ?_ ?_; rotate_left 1; rfl; (focus (intro wS hSw; obtain ⟨c0, c1, c2, c3, c4, c5⟩ := hSw; go_simp; first | done | with_reducible rfl)); (try simp only [Act.put, List.setIfInBounds_toArray, List.set_cons_zero, List.set_cons_succ])) | (refine seq_skip rfl ?_ ?_; rfl; (try simp only [Act.put, List.setIfInBounds_toArray, List.set_cons_zero, List.set_cons_succ])))
  refine seq_run rfl (fun K hK => ?_)
  go_simp
  go_at_call 89
  refine (load_at base _ p c _ _ _ k.who _ j x HSL.out HS.out.mem HX.out HS.out.size hL).mono ?_
  rintro r w2 ⟨rfl, v2, hT2⟩
  (try go_wp2_with fail)
  have hlt1 := HT.out.lt
  replace HT := Lib.hid (HT.out.keep hT2.keep (HS.out.apart b rfl))
  replace HS := Lib.hid (HS.out.cells (fun i hi => hi ▸ hlt1) hT2)
  clear hT2
  refine hK.out _ _ (HT.out.head) (fun _ => ?_)
  (try simp only [Act.put, List.setIfInBounds_toArray, List.set_cons_zero, List.set_cons_succ])
  clear hK K
  repeat (first | (refine seq_take (v := ?_) rfl ?_ ?_ ?_; rotate_left 1; rfl; (focus (intro wS hSw; obtain ⟨c0, c1, c2, c3, c4, c5⟩ := hSw; go_simp; first | done | with_reducible rfl)); (try simp only [Act.put, List.setIfInBounds_toArray, List.set_cons_zero, List.set_cons_succ])) | (refine seq_skip rfl ?_ ?_; rfl; (try simp only [Act.put, List.setIfInBounds_toArray, List.set_cons_zero, List.set_cons_succ])))
  refine seq_run rfl (fun K hK => ?_)
  go_simp
  go_at_call 45
  refine (HU.out _).mono ?_
  rintro r w3 ⟨rfl, hb3⟩
  (try go_wp2_with fail)
  replace HT := Lib.hid (HT.out.later hb3)
  replace HS := Lib.hid (HS.out.later hb3)
  clear hb3
  refine hK.out _ _ (HT.out.head) (fun _ => ?_)
  (try simp only [Act.put, List.setIfInBounds_toArray, List.set_cons_zero, List.set_cons_succ])
  clear hK K
  obtain ⟨c0, c1, c2, c3, c4, c5, c6, c7, c8, c9, c10, c11, c12⟩ := HT.out.cl
  have f7 := HT.out.fz 7
  have f8 := HT.out.fz 8
  have f9 := HT.out.fz 9
  have f10 := HT.out.fz 10
  have f11 := HT.out.fz 11
  repeat (first | (refine seq_take (v := ?_) rfl ?_ ?_ ?_; rotate_left 1; rfl; (focus (intro wS hSw; obtain ⟨x0, x1, x2, x3, x4, x5⟩ := hSw; go_simp; first | done | with_reducible rfl)); (try simp only [Act.put, List.setIfInBounds_toArray, List.set_cons_zero, List.set_cons_succ])) | (refine seq_skip rfl ?_ ?_; rfl; (try simp only [Act.put, List.setIfInBounds_toArray, List.set_cons_zero, List.set_cons_succ])))
  refine seq_run rfl (fun K hK => ?_)
  go_simp
  have HT4 := Lib.hid (((((HT.out.set 7 (i64 xs)).set 8 (i64 xe)).set 9 (i64 xg)).set 10 (i64 xl)).set 11 (i64 xh))
  have HS4 := Lib.hid (HS.out.own ((((((Keep.refl _ _).own 7 (i64 xs)).own 8 (i64 xe)).own 9 (i64 xg)).own 10 (i64 xl)).own 11 (i64 xh)))
  clear c0 c1 c2 c3 c4 c5 c6 c7 c8 c9 c10 c11 c12 f7 f8 f9 f10 f11
  refine hK.out _ _ (HT4.out.head) (fun _ => ?_)
  (try simp only [Act.put, List.setIfInBounds_toArray, List.set_cons_zero, List.set_cons_succ])
  clear hK K
  refine seq_done ?_
  obtain ⟨c0, c1, c2, c3, c4, c5, c6, c7, c8, c9, c10, c11, c12⟩ := HT4.out.cl (k := { k with ws := xs, we := xe, wg := xg, wl := xl, wh := xh })
  have ff := HT4.out.fz 6
  go_wp2
  go_end0
  exact ⟨rfl, _, HS4.out.own ((Keep.refl _ _).own 6 _), HT4.out.set 6 (.int .i64 1)⟩

set_option maxHeartbeats 4000000 in
theorem look_3 (x : Int) (h4 : x / 8 % 8192 ≠ 8191 ∧ x % 4 ≠ 0 ∧ x % 4 ≠ 2) (hk : k.Ok n m hz C) (j : Nat) (hsl : k.slot = (j : Int)) (hx : C[j]? = some x) (hT : IsObj w b k.list) (hM : IsMem base w p c v C L) (ha : ¬ Foot p c v b) (hb : base ≤ w.heap.size) (hL : L.length < 1000000000) :
    Calls Try.prog 76 #[pt b, pt p] w (ClPost base w b p c v (k.look m x) C (L ++ [⟨k.who, 0, j, x, x, true⟩]) (.returned (.tuple #[]))) := by
  obtain ⟨hl, hhz, hlen, w0, w1, hm, m0, m1, s0, s1, g0, g1⟩ := hk
  have hnx := hM.numAt hx
  have hU := fun W => unpack_any x W hnx.1 hnx.2
  have HS := Lib.hid (Does.refl (B := (· = b)) hM (fun i hi => hi ▸ ha) hb)
  have hA : AtHead w.drew b k.t k.s k.so k.d k.who k.slot := hT.drew.head
  unfold Cl.look Cl.word
  generalize x % 4 = xs at hU h4 ⊢
  generalize x / 4 % 2 = xe at hU h4 ⊢
  generalize x / 8 % 8192 = xg at hU h4 ⊢
  generalize x / 65536 % 16777216 = xl at hU h4 ⊢
  generalize x / 1099511627776 = xh at hU h4 ⊢
  have HU := Lib.hid hU
  have HT := Lib.hid hT
  have HX := Lib.hid hx
  have HP := Lib.hid (fun W (hW : IsObj W b { k with ws := xs, we := xe, wg := xg, wl := xl, wh := xh }.list) => pass_any W b { k with ws := xs, we := xe, wg := xg, wl := xl, wh := xh } n m hl w0 w1 hm m0 m1 s0 s1 hW)
  have HSL := Lib.hid hsl
  clear hU hT hx hM ha hm hhz hlen hsl
  obtain ⟨h, h', h2⟩ := h4
  rw [if_neg h, if_neg h', if_neg h2]
  have q1 : (xg == 8191) = false := by simp [h]
  have q2 : (xs == 0) = false := by simp [h']
  have q3 : (xs == 2) = false := by simp [h2]
  clear h h' h2
  go_enter Try.func76, Try.ntmps76
  go_wp2_with fail
  refine wp_region_seqS ((fun w' => AtHead w' b k.t k.s k.so k.d k.who k.slot)) ((0, true) :: (1, true) :: (2, true) :: (3, true) :: (4, true) :: (5, true) :: (6, true) :: (7, true) :: (8, true) :: (9, true) :: (10, true) :: (11, true) :: (12, true) :: (13, true) :: (14, false) :: (15, false) :: (16, false) :: (17, true) :: (18, true) :: (19, false) :: []) (by kernel_rfl) (by kernel_rfl) (by kernel_rfl) (by decide) (fun _ _ _ _ _ h => h) (hA) ?_
  repeat (first | (refine seq_take (v := ?_) rfl ?_ ?_ ?_; rotate_left 1; rfl; (focus (intro wS hSw; obtain ⟨c0, c1, c2, c3, c4, c5⟩ := hSw; go_simp; first | done | with_reducible rfl)); (try simp only [Act.put, List.setIfInBounds_toArray, List.set_cons_zero, List.set_cons_succ])) | (refine seq_skip rfl ?_ ?_; rfl; (try simp only [Act.put, List.setIfInBounds_toArray, List.set_cons_zero, List.set_cons_succ])))
  refine seq_run rfl (fun K hK => ?_)
  go_simp
  go_at_call 32
  refine (cword_any _ _ _ _ _ _).mono ?_
  rintro r w1 ⟨rfl, hb1⟩
  (try go_wp2_with fail)
  replace HT := Lib.hid (HT.out.drew.later hb1)
  replace HS := Lib.hid (HS.out.drew.later hb1)
  clear hb1 hA
  refine hK.out _ _ (HT.out.head) (fun _ => ?_)
  (try simp only [Act.put, List.setIfInBounds_toArray, List.set_cons_zero, List.set_cons_succ])
  clear hK K
  repeat (first | (refine seq_take (v := ?_) rfl ?_ ?_ ?_; rotate_left 1; rfl; (focus (intro wS hSw; obtain ⟨c0, c1, c2, c3, c4, c5⟩ := hSw; go_simp; first | done | with_reducible rfl)); (try simp only [Act.put, List.setIfInBounds_toArray, List.set_cons_zero, List.set_cons_succ])) | (refine seq_skip rfl ?_ ?_; rfl; (try simp only [Act.put, List.setIfInBounds_toArray, List.set_cons_zero, List.set_cons_succ])))
  refine seq_run rfl (fun K hK => ?_)
  go_simp
  go_at_call 89
  refine (load_at base _ p c _ _ _ k.who _ j x HSL.out HS.out.mem HX.out HS.out.size hL).mono ?_
  rintro r w2 ⟨rfl, v2, hT2⟩
  (try go_wp2_with fail)
  have hlt1 := HT.out.lt
  replace HT := Lib.hid (HT.out.keep hT2.keep (HS.out.apart b rfl))
  replace HS := Lib.hid (HS.out.cells (fun i hi => hi ▸ hlt1) hT2)
  clear hT2
  refine hK.out _ _ (HT.out.head) (fun _ => ?_)
  (try simp only [Act.put, List.setIfInBounds_toArray, List.set_cons_zero, List.set_cons_succ])
  clear hK K
  repeat (first | (refine seq_take (v := ?_) rfl ?_ ?_ ?_; rotate_left 1; rfl; (focus (intro wS hSw; obtain ⟨c0, c1, c2, c3, c4, c5⟩ := hSw; go_simp; first | done | with_reducible rfl)); (try simp only [Act.put, List.setIfInBounds_toArray, List.set_cons_zero, List.set_cons_succ])) | (refine seq_skip rfl ?_ ?_; rfl; (try simp only [Act.put, List.setIfInBounds_toArray, List.set_cons_zero, List.set_cons_succ])))
  refine seq_run rfl (fun K hK => ?_)
  go_simp
  go_at_call 45
  refine (HU.out _).mono ?_
  rintro r w3 ⟨rfl, hb3⟩
  (try go_wp2_with fail)
  replace HT := Lib.hid (HT.out.later hb3)
  replace HS := Lib.hid (HS.out.later hb3)
  clear hb3
  refine hK.out _ _ (HT.out.head) (fun _ => ?_)
  (try simp only [Act.put, List.setIfInBounds_toArray, List.set_cons_zero, List.set_cons_succ])
  clear hK K
  obtain ⟨c0, c1, c2, c3, c4, c5, c6, c7, c8, c9, c10, c11, c12⟩ := HT.out.cl
  have f7 := HT.out.fz 7
  have f8 := HT.out.fz 8
  have f9 := HT.out.fz 9
  have f10 := HT.out.fz 10
  have f11 := HT.out.fz 11
  repeat (first | (refine seq_take (v := ?_) rfl ?_ ?_ ?_; rotate_left 1; rfl; (focus (intro wS hSw; obtain ⟨x0, x1, x2, x3, x4, x5⟩ := hSw; go_simp; first | done | with_reducible rfl)); (try simp only [Act.put, List.setIfInBounds_toArray, List.set_cons_zero, List.set_cons_succ])) | (refine seq_skip rfl ?_ ?_; rfl; (try simp only [Act.put, List.setIfInBounds_toArray, List.set_cons_zero, List.set_cons_succ])))
  refine seq_run rfl (fun K hK => ?_)
  go_simp
  have HT4 := Lib.hid (((((HT.out.set 7 (i64 xs)).set 8 (i64 xe)).set 9 (i64 xg)).set 10 (i64 xl)).set 11 (i64 xh))
  have HS4 := Lib.hid (HS.out.own ((((((Keep.refl _ _).own 7 (i64 xs)).own 8 (i64 xe)).own 9 (i64 xg)).own 10 (i64 xl)).own 11 (i64 xh)))
  clear c0 c1 c2 c3 c4 c5 c6 c7 c8 c9 c10 c11 c12 f7 f8 f9 f10 f11
  refine hK.out _ _ (HT4.out.head) (fun _ => ?_)
  (try simp only [Act.put, List.setIfInBounds_toArray, List.set_cons_zero, List.set_cons_succ])
  clear hK K
  refine seq_done ?_
  obtain ⟨c0, c1, c2, c3, c4, c5, c6, c7, c8, c9, c10, c11, c12⟩ := HT4.out.cl (k := { k with ws := xs, we := xe, wg := xg, wl := xl, wh := xh })
  go_wp2_with fail
  refine (HP.out _ HT4.out).mono ?_
  rintro r w5 ⟨rfl, hT5, hK5⟩
  go_wp2
  go_end0
  exact ⟨rfl, _, HS4.out.own hK5, hT5⟩

end

end Go.Proofs.Ytoogdfjlodchhaa
