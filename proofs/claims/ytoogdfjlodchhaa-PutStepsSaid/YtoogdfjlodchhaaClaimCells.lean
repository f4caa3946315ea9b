/-
  Contracts of Cells and guarded of package stackyardlaw06. No condition but that the layout is right, and that lists are no longer than the laws let them be.
-/
import Derived.Test.YtoogdfjlodchhaaClaimPure
import Derived.Test.YtoogdfjlodchhaaFlat
namespace Go.Proofs.Ytoogdfjlodchhaa
open Go.RowKit
set_option linter.unusedVariables false

theorem IsMem.weak {base base' : Nat} {w : World} {p c : Nat} {v : Value} {C : List Int} {L : List Ev} (h : IsMem base w p c v C L) (hb : base' ≤ base) : IsMem base' w p c v C L :=
  ⟨h.c0, h.c1, h.fz, row_base h.row hb, row_base h.log hb, h.pc, h.vp, h.vc, Nat.le_trans hb h.pb, h.ps, h.num⟩

theorem rows_place {w : World} {a0 : Option Addr} {len cap : Nat} (h : IsRows w [.inl .i64, .inl .i64, .inr true] a0 len cap) :
    ∃ b off, ∃ X : Nat → Int × Int × Bool, ∀ i, i < len → a0 = some ⟨b, off, none⟩ ∧ len ≤ cap ∧ b < w.heap.size ∧ w.cell? ⟨b, off + i * 3, none⟩ = some (i64 (X i).1) ∧ w.cell? ⟨b, off + i * 3 + 1, none⟩ = some (i64 (X i).2.1) ∧ w.cell? ⟨b, off + i * 3 + 2, none⟩ = some (.bool (X i).2.2) := by
  obtain ⟨h1, h2, h3, h4, h5⟩ := h
  rcases Nat.eq_zero_or_pos len with h0 | hl
  · exact ⟨0, 0, fun _ => (0, 0, false), fun i hi => by omega⟩
  obtain ⟨b, off, rfl⟩ := h4 hl
  have hx : ∀ i, ∃ x : Int × Int × Bool, i < len → w.cell? ⟨b, off + i * 3, none⟩ = some (i64 x.1) ∧ w.cell? ⟨b, off + i * 3 + 1, none⟩ = some (i64 x.2.1) ∧ w.cell? ⟨b, off + i * 3 + 2, none⟩ = some (.bool x.2.2) := by
    intro i
    by_cases hi : i < len
    · obtain ⟨cs, hf, hc⟩ := h5 b off rfl i hi
      obtain ⟨c0, l0, rfl, r0, f0⟩ := fit_cons hf
      obtain ⟨c1, l1, rfl, r1, f1⟩ := fit_cons f0
      obtain ⟨c2, l2, rfl, r2, f2⟩ := fit_cons f1
      obtain ⟨x0, rfl, g0⟩ := r0
      obtain ⟨x1, rfl, g1⟩ := r1
      obtain ⟨x2, rfl⟩ := r2
      exact ⟨⟨x0, x1, x2⟩, fun _ => ⟨hc 0 _ rfl, hc 1 _ rfl, hc 2 _ rfl⟩⟩
    · exact ⟨⟨0, 0, false⟩, fun h => absurd h hi⟩
  obtain ⟨X, hX⟩ := Classical.axiomOfChoice hx
  exact ⟨b, off, X, fun i hi => ⟨rfl, h1, World.block_lt_of_cell? w _ (hX i hi).1, hX i hi⟩⟩
theorem rows_ints {w : World} {a0 : Option Addr} {len cap : Nat} (h : IsRows w [.inl .i64] a0 len cap) :
    ∃ b off, ∃ X : Nat → Int, ∀ i, i < len → a0 = some ⟨b, off, none⟩ ∧ len ≤ cap ∧ b < w.heap.size ∧ w.cell? ⟨b, off + i, none⟩ = some (i64 (X i)) := by
  obtain ⟨h1, h2, h3, h4, h5⟩ := h
  rcases Nat.eq_zero_or_pos len with h0 | hl
  · exact ⟨0, 0, fun _ => 0, fun i hi => by omega⟩
  obtain ⟨b, off, rfl⟩ := h4 hl
  have hx : ∀ i, ∃ x : Int, i < len → w.cell? ⟨b, off + i, none⟩ = some (i64 x) := by
    intro i
    by_cases hi : i < len
    · obtain ⟨cs, hf, hc⟩ := h5 b off rfl i hi
      obtain ⟨c0, l0, rfl, r0, f0⟩ := fit_cons hf
      obtain ⟨x0, rfl, g0⟩ := r0
      have := hc 0 _ rfl
      simp only [List.length_cons, List.length_nil, Nat.zero_add, Nat.mul_one, Nat.add_zero] at this
      exact ⟨x0, fun _ => this⟩
    · exact ⟨0, fun h => absurd h hi⟩
  obtain ⟨X, hX⟩ := Classical.axiomOfChoice hx
  exact ⟨b, off, X, fun i hi => ⟨rfl, h1, World.block_lt_of_cell? w ⟨b, off + i, none⟩ (hX i hi), hX i hi⟩⟩

/-- The layout's box and a place of a list. -/
def AtCP (cb tb o : Nat) (t s x y : Int) (z : Bool) (w : World) : Prop := AtC w cb t s 0 0 ∧ w.cell? ⟨tb, o, none⟩ = some (i64 x) ∧ w.cell? ⟨tb, o + 1, none⟩ = some (i64 y) ∧ w.cell? ⟨tb, o + 2, none⟩ = some (.bool z)
theorem AtCP.keep {cb tb o : Nat} {t s x y : Int} {z : Bool} {w w' : World} {T : Nat → Prop} (h : AtCP cb tb o t s x y z w) (k : Keep T w w') (hc : ¬ T cb) (ht : ¬ T tb) : AtCP cb tb o t s x y z w' := ⟨h.1.keep k hc, k.cell h.2.1 ht, k.cell h.2.2.1 ht, k.cell h.2.2.2 ht⟩
theorem AtCP.later {cb tb o : Nat} {t s x y : Int} {z : Bool} {w w' : World} (h : AtCP cb tb o t s x y z w) (k : Below w.heap.size w w') : AtCP cb tb o t s x y z w' :=
  h.keep (Keep.of_below (T := fun _ => False) k) (fun h => h) (fun h => h)
/-- The layout's box and a number of a list. -/
def AtCI (cb tb o : Nat) (t s x : Int) (w : World) : Prop := AtC w cb t s 0 0 ∧ w.cell? ⟨tb, o, none⟩ = some (i64 x)
theorem AtCI.keep {cb tb o : Nat} {t s x : Int} {w w' : World} {T : Nat → Prop} (h : AtCI cb tb o t s x w) (k : Keep T w w') (hc : ¬ T cb) (ht : ¬ T tb) : AtCI cb tb o t s x w' := ⟨h.1.keep k hc, k.cell h.2 ht⟩
theorem AtCI.later {cb tb o : Nat} {t s x : Int} {w w' : World} (h : AtCI cb tb o t s x w) (k : Below w.heap.size w w') : AtCI cb tb o t s x w' :=
  h.keep (Keep.of_below (T := fun _ => False) k) (fun h => h) (fun h => h)
theorem chazard_nat2 (t s : Int) (N : Nat) (i : Int) (j : Nat) (w : World) (h : Lay t s N) (i0 : 0 ≤ i) (i1 : i ≤ t) (hj : 2 * (N : Int) + i = (j : Int)) :
    Calls Try.prog 48 #[cf t s 0 0, i64 i] w fun r w' => r = .returned (i64 j) ∧ Below w.heap.size w w' := by
  rw [← hj]
  exact chazard_any t s 0 0 N i w h i0 i1

/-- Cells that were made, with whatever is in them. -/
def CellsPost (base : Nat) (t : Int) (N : Nat) (w : World) (r : Ending) (w' : World) : Prop :=
  ∃ p c v C L, r = .returned (pt p) ∧ IsMem base w' p c v C L ∧ (C.length : Int) = 2 * N + 2 * t ∧ L.length ≤ 20 ∧ Below w.heap.size w w' ∧ ∀ q, Foot p c v q → w.heap.size ≤ q

set_option maxRecDepth 100000 in
set_option maxHeartbeats 8000000 in
theorem cells_any (base : Nat) (t s : Int) (N : Nat) (a2 a3 : Option Addr) (len2 cap2 len3 cap3 : Nat) (w : World) (hlay : Lay t s N) (t2 : t ≤ 4) (hN2 : N ≤ 16) (hb : base ≤ w.heap.size) (w2 : IsRows w [.inl .i64, .inl .i64, .inr true] a2 len2 cap2) (w3 : IsRows w [.inl .i64] a3 len3 cap3) :
    Calls Try.prog 17 #[cf t s 0 0, .slice a2 len2 cap2, .slice a3 len3 cap3] w (CellsPost base t N w) := by
  have t1 := hlay.t1
  have hN1 := hlay.n1
  obtain ⟨tb, off, X, HX⟩ := rows_place w2
  obtain ⟨ub, uff, Y, HY⟩ := rows_ints w3
  have HBB := Lib.hid hb
  have hA := AtC.made w t s 0 0
  have hB3 := below_new (Below.refl w.heap.size w) (.cells #[.int .i64 t, .int .i64 s, .int .i64 0, .int .i64 0] 29)
  have hs3 : w.heap.size < (w.alloc (.cells #[.int .i64 t, .int .i64 s, .int .i64 0, .int .i64 0] 29)).heap.size := by simp
  have HA := Lib.hid hA
  have HB := Lib.hid hB3
  have Hs := Lib.hid hs3
  clear hA hB3 hs3 w2 w3 hb
  go_enter Try.func17, Try.ntmps17
  go_wp2_with fail
  generalize w.alloc (.cells #[.int .i64 t, .int .i64 s, .int .i64 0, .int .i64 0] 29) = W at HA HB Hs ⊢
  generalize hcb : w.heap.size = cb at HA Hs ⊢
  have Hcb := Lib.hid hcb
  clear hcb
  refine (ccells_any t s 0 0 N _ hlay).mono ?_
  rintro r w1 ⟨rfl, hb1⟩
  obtain ⟨M, hM⟩ : ∃ M : Nat, 2 * (N : Int) + 2 * t = (M : Int) := ⟨(2 * (N : Int) + 2 * t).toNat, by omega⟩
  have HM := Lib.hid hM
  rw [hM]
  clear hM
  go_wp2_with fail
  refine (new_nat W.heap.size M M _ hb1.size (by have := HM.out; omega) (.inl rfl)).mono ?_
  rintro r w2 ⟨p, c, rfl, hM2, hb2, hp, hc⟩
  have HH := Lib.hid (Hold.cells hb1 hM2 hb2 hp hc)
  have HL0 : Hid ((List.replicate M (0 : Int)).length = M) := List.length_replicate
  clear hM2 hb2 hp hc hb1
  go_wp2_with fail
  go_loopw [8] (fun i wr => ∃ (e : Nat) (v : Value) (C : List Int) (L : List Ev), e ≤ N ∧ i = .int .i64 e ∧ Hid (Hold W wr [tMem W.heap.size p c v C L]) ∧ Hid (C.length = M) ∧ Hid (L.length ≤ e)) (fun i _ => N - (intOf i).toNat)
  case atStart => exact ⟨0, _, _, _, by omega, rfl, HH, HL0, Nat.zero_le _⟩
  case round =>
    clear HH HL0
    obtain ⟨e, v, C, L, he, rfl, HH, HC, HL⟩ := hrel
    obtain ⟨q0, q1, q2, q3⟩ := HA.out.later HH.out.below Hs.out
    go_wp2_with fail
    refine (call_any t s 0 0 N _ hlay).mono ?_
    rintro r w5 ⟨rfl, hb5⟩
    replace HH := Lib.hid (HH.out.later hb5)
    clear hb5 q0 q1 q2 q3
    rcases Nat.lt_or_ge e N with heN | heN
    · have heN' : (e : Int) < (N : Int) := by omega
      rcases Nat.lt_or_ge e len2 with hel | hel
      · obtain ⟨rfl, hcap, htb, hx0, hx1, hx2⟩ := HX e hel
        have hel' : (e : Int) < (len2 : Int) := by omega
        have hwW : Below w.heap.size w w5 := below_step' HB.out HH.out.below HB.out.size
        have gx0 := (hwW.cell (p := ⟨tb, _, none⟩) htb).trans hx0
        have gx1 := (hwW.cell (p := ⟨tb, _, none⟩) htb).trans hx1
        have gx2 := (hwW.cell (p := ⟨tb, _, none⟩) htb).trans hx2
        generalize (X e).1 = x at gx0
        generalize (X e).2.1 = y at gx1
        generalize (X e).2.2 = z at gx2
        have hM5 : IsMem W.heap.size w5 p c v C L := HH.out.has 0 _ rfl
        have hcf : ¬ Foot p c v cb := fun hf => by have := (hM5.foot _ hf).1; have := Hs.out; omega
        have htf : ¬ Foot p c v tb := fun hf => by have := (hM5.foot _ hf).1; have := HB.out.size; omega
        have HCT : Hid (AtCP cb tb (off + e * 3) t s x y z w5) := ⟨HA.out.later HH.out.below Hs.out, gx0, gx1, gx2⟩
        have HJ : Hid (e < C.length) := by have := HC.out; have := HM.out; show _ < _; omega
        have HCF := Lib.hid hcf
        have HTF := Lib.hid htf
        clear hx0 hx1 hx2 hwW hM5 hcf htf HX HY
        go_wp2_with fail
        refine wp_region_seqS ((AtCP cb tb (off + e * 3) t s x y z)) ((0, true) :: (1, true) :: (2, true) :: (4, true) :: (5, true) :: (6, true) :: (7, true) :: (3, false) :: (8, false) :: (9, false) :: (10, false) :: []) (by kernel_rfl) (by kernel_rfl) (by kernel_rfl) (by decide) (fun _ _ _ _ _ h => h) ((HCT.out.later (Below.refl _ _).drew)) ?_
        replace HCT := Lib.hid (HCT.out.later (Below.refl _ _).drew)
        replace HH := Lib.hid HH.out.drew
        clear gx0 gx1 gx2
        repeat (first | (refine seq_take (v := ?_) rfl ?_ ?_ ?_; rotate_left 1; rfl; (focus (intro wS hSw; obtain ⟨⟨k0, k1, k2, k3⟩, kx, ky, kz⟩ := hSw; go_simp; first | done | with_reducible rfl)); (try simp only [Act.put, List.setIfInBounds_toArray, List.set_cons_zero, List.set_cons_succ])) | (refine seq_skip rfl ?_ ?_; rfl; (try simp only [Act.put, List.setIfInBounds_toArray, List.set_cons_zero, List.set_cons_succ])))
        refine seq_run rfl (fun K hK => ?_)
        go_simp
        go_at_call 32
        refine (cword_any _ _ _ _ _ _).mono ?_
        rintro r w6 ⟨rfl, hb6⟩
        (try go_wp2_with fail)
        replace HCT := Lib.hid (HCT.out.later hb6)
        replace HH := Lib.hid (HH.out.later hb6)
        clear hb6
        refine hK.out _ _ (HCT.out) (fun _ => ?_)
        (try simp only [Act.put, List.setIfInBounds_toArray, List.set_cons_zero, List.set_cons_succ])
        clear hK K
        repeat (first | (refine seq_take (v := ?_) rfl ?_ ?_ ?_; rotate_left 1; rfl; (focus (intro wS hSw; obtain ⟨⟨k0, k1, k2, k3⟩, kx, ky, kz⟩ := hSw; go_simp; first | done | with_reducible rfl)); (try simp only [Act.put, List.setIfInBounds_toArray, List.set_cons_zero, List.set_cons_succ])) | (refine seq_skip rfl ?_ ?_; rfl; (try simp only [Act.put, List.setIfInBounds_toArray, List.set_cons_zero, List.set_cons_succ])))
        refine seq_run rfl (fun K hK => ?_)
        go_simp
        go_at_call 71
        refine (place_any x y z _).mono ?_
        rintro r w6 ⟨ps, pg, rfl, z0, z1, z2, z3, hb6⟩
        (try go_wp2_with fail)
        replace HCT := Lib.hid (HCT.out.later hb6)
        replace HH := Lib.hid (HH.out.later hb6)
        clear hb6
        refine hK.out _ _ (HCT.out) (fun _ => ?_)
        (try simp only [Act.put, List.setIfInBounds_toArray, List.set_cons_zero, List.set_cons_succ])
        clear hK K
        repeat (first | (refine seq_take (v := ?_) rfl ?_ ?_ ?_; rotate_left 1; rfl; (focus (intro wS hSw; obtain ⟨⟨k0, k1, k2, k3⟩, kx, ky, kz⟩ := hSw; go_simp; first | done | with_reducible rfl)); (try simp only [Act.put, List.setIfInBounds_toArray, List.set_cons_zero, List.set_cons_succ])) | (refine seq_skip rfl ?_ ?_; rfl; (try simp only [Act.put, List.setIfInBounds_toArray, List.set_cons_zero, List.set_cons_succ])))
        refine seq_run rfl (fun K hK => ?_)
        go_simp
        go_at_call 33
        refine (pack_right ps 0 pg 0 0 _ (by omega)).mono ?_
        rintro r w6 ⟨rfl, hb6⟩
        (try go_wp2_with fail)
        replace HCT := Lib.hid (HCT.out.later hb6)
        replace HH := Lib.hid (HH.out.later hb6)
        clear hb6
        refine hK.out _ _ (HCT.out) (fun _ => ?_)
        (try simp only [Act.put, List.setIfInBounds_toArray, List.set_cons_zero, List.set_cons_succ])
        clear hK K
        repeat (first | (refine seq_take (v := ?_) rfl ?_ ?_ ?_; rotate_left 1; rfl; (focus (intro wS hSw; obtain ⟨⟨k0, k1, k2, k3⟩, kx, ky, kz⟩ := hSw; go_simp; first | done | with_reducible rfl)); (try simp only [Act.put, List.setIfInBounds_toArray, List.set_cons_zero, List.set_cons_succ])) | (refine seq_skip rfl ?_ ?_; rfl; (try simp only [Act.put, List.setIfInBounds_toArray, List.set_cons_zero, List.set_cons_succ])))
        obtain ⟨pv, hpv, z4, z5⟩ : ∃ pv, ps + 4 * 0 + 8 * pg + 65536 * 0 + 1099511627776 * 0 = pv ∧ 0 ≤ pv ∧ pv ≤ 18446744073709551615 := ⟨_, rfl, by omega, by omega⟩
        refine seq_run rfl (fun K hK => ?_)
        go_simp
        go_at_call 22
        refine (store_in W.heap.size _ p c _ _ _ (-1) e _ _ (HH.out.has 0 _ rfl) (getD_at HJ.out) HH.out.size (by have := HL.out; omega) (by omega) (by omega)).mono ?_
        rintro r w7 ⟨rfl, v7, hT7⟩
        (try go_wp2_with fail)
        replace HCT := Lib.hid (HCT.out.keep hT7.keep HCF.out HTF.out)
        have HH7 := Lib.hid (HH.out.mem 0 rfl hT7)
        clear hT7 HH
        refine hK.out _ _ (HCT.out) (fun _ => ?_)
        (try simp only [Act.put, List.setIfInBounds_toArray, List.set_cons_zero, List.set_cons_succ])
        clear hK K
        repeat (first | (refine seq_take (v := ?_) rfl ?_ ?_ ?_; rotate_left 1; rfl; (focus (intro wS hSw; obtain ⟨⟨k0, k1, k2, k3⟩, kx, ky, kz⟩ := hSw; go_simp; first | done | with_reducible rfl)); (try simp only [Act.put, List.setIfInBounds_toArray, List.set_cons_zero, List.set_cons_succ])) | (refine seq_skip rfl ?_ ?_; rfl; (try simp only [Act.put, List.setIfInBounds_toArray, List.set_cons_zero, List.set_cons_succ])))
        refine seq_done ?_
        clear HCT HCF HTF hpv
        go_wp2_with fail
        go_roundw
        case rel => exact ⟨e + 1, v7, _, _, by omega, by go_num, HH7, by show _ = _; rw [List.length_set]; exact HC.out, by show _ ≤ _; rw [List.length_append]; have := HL.out; simp; omega⟩
        case measure => simp [intOf]; omega
      · have hel' : ¬ e < len2 := by omega
        have HL1 : Hid (L.length ≤ e + 0) := HL.out
        obtain ⟨wo, rfl⟩ : ∃ wo : World, wo = wr := ⟨_, rfl⟩
        clear HX HL
        go_wp2_with fail
        (try clear hel')
        (try clear hel)
        (try clear heN')
        (try clear heN)
        go_loopw [9] (fun i wr => ∃ (q : Nat) (v : Value) (C : List Int) (L : List Ev), (q : Int) ≤ t ∧ i = .int .i64 q ∧ Hid (Hold W wr [tMem W.heap.size p c v C L]) ∧ Hid (C.length = M) ∧ Hid (L.length ≤ e + q)) (fun i _ => t.toNat - (intOf i).toNat)
        case atStart => exact ⟨0, _, _, _, by omega, rfl, HH, HC, HL1⟩
        case round =>
          clear HH HC HL1
          obtain ⟨q, v, C, L, hq, rfl, HH, HC, HL⟩ := hrel
          obtain ⟨q0, q1, q2, q3⟩ := HA.out.later HH.out.below Hs.out
          rcases Int.lt_or_le (q : Int) t with hqt | hqt
          · rcases Nat.lt_or_ge q len3 with hql | hql
            · obtain ⟨rfl, hcap, hub, hy⟩ := HY q hql
              have hql' : (q : Int) < (len3 : Int) := by omega
              have hwW : Below w.heap.size w wr := below_step' HB.out HH.out.below HB.out.size
              have gy := (hwW.cell (p := ⟨ub, _, none⟩) hub).trans hy
              generalize Y q = y at gy
              obtain ⟨u, hu, l5, g5⟩ : ∃ u, bits .and .i64 y 31 = u ∧ 0 ≤ u ∧ u ≤ 31 := ⟨_, by rw [show (31 : Int) = ((31 : Nat) : Int) from rfl, and_i64 y 31 5 rfl (by decide)], by show (0 : Int) ≤ y % ((2 ^ 5 : Nat) : Int); omega, by show y % ((2 ^ 5 : Nat) : Int) ≤ 31; omega⟩
              have hwu : IntKind.u64.wrap u = u := by rw [IntKind.wrap_u64]; omega
              have hM5 : IsMem W.heap.size wr p c v C L := HH.out.has 0 _ rfl
              have hcf : ¬ Foot p c v cb := fun hf => by have := (hM5.foot _ hf).1; have := Hs.out; omega
              have htf : ¬ Foot p c v ub := fun hf => by have := (hM5.foot _ hf).1; have := HB.out.size; omega
              have HCT : Hid (AtCI cb ub (uff + q) t s y wr) := ⟨HA.out.later HH.out.below Hs.out, gy⟩
              obtain ⟨j, hj⟩ : ∃ j : Nat, 2 * (N : Int) + (q : Int) = (j : Int) := ⟨2 * N + q, by omega⟩
              have HJ : Hid (j < C.length) := by have := HC.out; have := HM.out; show _ < _; omega
              have HJE := Lib.hid hj
              have HCF := Lib.hid hcf
              have HTF := Lib.hid htf
              clear hy hwW hM5 hcf htf HY hj
              go_wp2_with fail
              refine wp_region_seqS ((AtCI cb ub (uff + q) t s y)) ((0, true) :: (1, true) :: (2, true) :: (4, true) :: (5, true) :: (6, true) :: (7, true) :: (8, true) :: (9, true) :: (3, false) :: (10, false) :: []) (by kernel_rfl) (by kernel_rfl) (by kernel_rfl) (by decide) (fun _ _ _ _ _ h => h) ((HCT.out.later (Below.refl _ _).drew)) ?_
              replace HCT := Lib.hid (HCT.out.later (Below.refl _ _).drew)
              replace HH := Lib.hid HH.out.drew
              clear gy q0 q1 q2 q3
              repeat (first | (refine seq_take (v := ?_) rfl ?_ ?_ ?_; rotate_left 1; rfl; (focus (intro wS hSw; obtain ⟨⟨k0, k1, k2, k3⟩, ky⟩ := hSw; go_simp; first | done | with_reducible rfl)); (try simp only [Act.put, List.setIfInBounds_toArray, List.set_cons_zero, List.set_cons_succ])) | (refine seq_skip rfl ?_ ?_; rfl; (try simp only [Act.put, List.setIfInBounds_toArray, List.set_cons_zero, List.set_cons_succ])))
              refine seq_run rfl (fun K hK => ?_)
              go_simp
              go_at_call 48
              refine (chazard_nat2 t s N _ j _ hlay (by omega) (by omega) HJE.out).mono ?_
              rintro r w6 ⟨rfl, hb6⟩
              (try go_wp2_with fail)
              replace HCT := Lib.hid (HCT.out.later hb6)
              replace HH := Lib.hid (HH.out.later hb6)
              clear hb6
              refine hK.out _ _ (HCT.out) (fun _ => ?_)
              (try simp only [Act.put, List.setIfInBounds_toArray, List.set_cons_zero, List.set_cons_succ])
              clear hK K
              repeat (first | (refine seq_take (v := ?_) rfl ?_ ?_ ?_; rotate_left 1; rfl; (focus (intro wS hSw; obtain ⟨⟨k0, k1, k2, k3⟩, ky⟩ := hSw; go_simp; first | done | with_reducible rfl)); (try simp only [Act.put, List.setIfInBounds_toArray, List.set_cons_zero, List.set_cons_succ])) | (refine seq_skip rfl ?_ ?_; rfl; (try simp only [Act.put, List.setIfInBounds_toArray, List.set_cons_zero, List.set_cons_succ])))
              refine seq_run rfl (fun K hK => ?_)
              go_simp
              go_at_call 22
              refine (store_in W.heap.size _ p c _ _ _ (-1) j _ u (HH.out.has 0 _ rfl) (getD_at HJ.out) HH.out.size (by have := HL.out; omega) (by omega) (by omega)).mono ?_
              rintro r w7 ⟨rfl, v7, hT7⟩
              (try go_wp2_with fail)
              replace HCT := Lib.hid (HCT.out.keep hT7.keep HCF.out HTF.out)
              have HH7 := Lib.hid (HH.out.mem 0 rfl hT7)
              clear hT7 HH
              refine hK.out _ _ (HCT.out) (fun _ => ?_)
              (try simp only [Act.put, List.setIfInBounds_toArray, List.set_cons_zero, List.set_cons_succ])
              clear hK K
              repeat (first | (refine seq_take (v := ?_) rfl ?_ ?_ ?_; rotate_left 1; rfl; (focus (intro wS hSw; obtain ⟨⟨k0, k1, k2, k3⟩, ky⟩ := hSw; go_simp; first | done | with_reducible rfl)); (try simp only [Act.put, List.setIfInBounds_toArray, List.set_cons_zero, List.set_cons_succ])) | (refine seq_skip rfl ?_ ?_; rfl; (try simp only [Act.put, List.setIfInBounds_toArray, List.set_cons_zero, List.set_cons_succ])))
              refine seq_done ?_
              clear HCT HCF HTF
              go_wp2_with fail
              go_roundw
              case rel => exact ⟨q + 1, v7, _, _, by omega, by go_num, HH7, by show _ = _; rw [List.length_set]; exact HC.out, by show _ ≤ _; rw [List.length_append]; have := HL.out; simp; omega⟩
              case measure => simp [intOf]; omega
            · have hql' : ¬ (q : Int) < (len3 : Int) := by omega
              have hMf : IsMem W.heap.size wr p c v C L := HH.out.has 0 _ rfl
              have HMF := Lib.hid hMf
              clear hMf
              go_wp2
              go_ret
              exact ⟨p, c, v, C, L, rfl, HMF.out.weak (Nat.le_trans HBB.out HB.out.size), by rw [HC.out]; exact HM.out.symm, by have := HL.out; omega, below_step' HB.out HH.out.below HB.out.size, fun q hq => Nat.le_trans HB.out.size (HMF.out.foot q hq).1⟩
          · have hqt' : ¬ (q : Int) < t := by omega
            have hMf : IsMem W.heap.size wr p c v C L := HH.out.has 0 _ rfl
            have HMF := Lib.hid hMf
            clear hMf
            go_wp2
            go_ret
            exact ⟨p, c, v, C, L, rfl, HMF.out.weak (Nat.le_trans HBB.out HB.out.size), by rw [HC.out]; exact HM.out.symm, by have := HL.out; omega, below_step' HB.out HH.out.below HB.out.size, fun q hq => Nat.le_trans HB.out.size (HMF.out.foot q hq).1⟩
    · have heN' : ¬ e < N := by omega
      have HL1 : Hid (L.length ≤ e + 0) := HL.out
      obtain ⟨wo, rfl⟩ : ∃ wo : World, wo = wr := ⟨_, rfl⟩
      clear HX HL
      go_wp2_with fail
      (try clear hel')
      (try clear hel)
      (try clear heN')
      (try clear heN)
      go_loopw [9] (fun i wr => ∃ (q : Nat) (v : Value) (C : List Int) (L : List Ev), (q : Int) ≤ t ∧ i = .int .i64 q ∧ Hid (Hold W wr [tMem W.heap.size p c v C L]) ∧ Hid (C.length = M) ∧ Hid (L.length ≤ e + q)) (fun i _ => t.toNat - (intOf i).toNat)
      case atStart => exact ⟨0, _, _, _, by omega, rfl, HH, HC, HL1⟩
      case round =>
        clear HH HC HL1
        obtain ⟨q, v, C, L, hq, rfl, HH, HC, HL⟩ := hrel
        obtain ⟨q0, q1, q2, q3⟩ := HA.out.later HH.out.below Hs.out
        rcases Int.lt_or_le (q : Int) t with hqt | hqt
        · rcases Nat.lt_or_ge q len3 with hql | hql
          · obtain ⟨rfl, hcap, hub, hy⟩ := HY q hql
            have hql' : (q : Int) < (len3 : Int) := by omega
            have hwW : Below w.heap.size w wr := below_step' HB.out HH.out.below HB.out.size
            have gy := (hwW.cell (p := ⟨ub, _, none⟩) hub).trans hy
            generalize Y q = y at gy
            obtain ⟨u, hu, l5, g5⟩ : ∃ u, bits .and .i64 y 31 = u ∧ 0 ≤ u ∧ u ≤ 31 := ⟨_, by rw [show (31 : Int) = ((31 : Nat) : Int) from rfl, and_i64 y 31 5 rfl (by decide)], by show (0 : Int) ≤ y % ((2 ^ 5 : Nat) : Int); omega, by show y % ((2 ^ 5 : Nat) : Int) ≤ 31; omega⟩
            have hwu : IntKind.u64.wrap u = u := by rw [IntKind.wrap_u64]; omega
            have hM5 : IsMem W.heap.size wr p c v C L := HH.out.has 0 _ rfl
            have hcf : ¬ Foot p c v cb := fun hf => by have := (hM5.foot _ hf).1; have := Hs.out; omega
            have htf : ¬ Foot p c v ub := fun hf => by have := (hM5.foot _ hf).1; have := HB.out.size; omega
            have HCT : Hid (AtCI cb ub (uff + q) t s y wr) := ⟨HA.out.later HH.out.below Hs.out, gy⟩
            obtain ⟨j, hj⟩ : ∃ j : Nat, 2 * (N : Int) + (q : Int) = (j : Int) := ⟨2 * N + q, by omega⟩
            have HJ : Hid (j < C.length) := by have := HC.out; have := HM.out; show _ < _; omega
            have HJE := Lib.hid hj
            have HCF := Lib.hid hcf
            have HTF := Lib.hid htf
            clear hy hwW hM5 hcf htf HY hj
            go_wp2_with fail
            refine wp_region_seqS ((AtCI cb ub (uff + q) t s y)) ((0, true) :: (1, true) :: (2, true) :: (4, true) :: (5, true) :: (6, true) :: (7, true) :: (8, true) :: (9, true) :: (3, false) :: (10, false) :: []) (by kernel_rfl) (by kernel_rfl) (by kernel_rfl) (by decide) (fun _ _ _ _ _ h => h) ((HCT.out.later (Below.refl _ _).drew)) ?_
            replace HCT := Lib.hid (HCT.out.later (Below.refl _ _).drew)
            replace HH := Lib.hid HH.out.drew
            clear gy q0 q1 q2 q3
            repeat (first | (refine seq_take (v := ?_) rfl ?_ ?_ ?_; rotate_left 1; rfl; (focus (intro wS hSw; obtain ⟨⟨k0, k1, k2, k3⟩, ky⟩ := hSw; go_simp; first | done | with_reducible rfl)); (try simp only [Act.put, List.setIfInBounds_toArray, List.set_cons_zero, List.set_cons_succ])) | (refine seq_skip rfl ?_ ?_; rfl; (try simp only [Act.put, List.setIfInBounds_toArray, List.set_cons_zero, List.set_cons_succ])))
            refine seq_run rfl (fun K hK => ?_)
            go_simp
            go_at_call 48
            refine (chazard_nat2 t s N _ j _ hlay (by omega) (by omega) HJE.out).mono ?_
            rintro r w6 ⟨rfl, hb6⟩
            (try go_wp2_with fail)
            replace HCT := Lib.hid (HCT.out.later hb6)
            replace HH := Lib.hid (HH.out.later hb6)
            clear hb6
            refine hK.out _ _ (HCT.out) (fun _ => ?_)
            (try simp only [Act.put, List.setIfInBounds_toArray, List.set_cons_zero, List.set_cons_succ])
            clear hK K
            repeat (first | (refine seq_take (v := ?_) rfl ?_ ?_ ?_; rotate_left 1; rfl; (focus (intro wS hSw; obtain ⟨⟨k0, k1, k2, k3⟩, ky⟩ := hSw; go_simp; first | done | with_reducible rfl)); (try simp only [Act.put, List.setIfInBounds_toArray, List.set_cons_zero, List.set_cons_succ])) | (refine seq_skip rfl ?_ ?_; rfl; (try simp only [Act.put, List.setIfInBounds_toArray, List.set_cons_zero, List.set_cons_succ])))
            refine seq_run rfl (fun K hK => ?_)
            go_simp
            go_at_call 22
            refine (store_in W.heap.size _ p c _ _ _ (-1) j _ u (HH.out.has 0 _ rfl) (getD_at HJ.out) HH.out.size (by have := HL.out; omega) (by omega) (by omega)).mono ?_
            rintro r w7 ⟨rfl, v7, hT7⟩
            (try go_wp2_with fail)
            replace HCT := Lib.hid (HCT.out.keep hT7.keep HCF.out HTF.out)
            have HH7 := Lib.hid (HH.out.mem 0 rfl hT7)
            clear hT7 HH
            refine hK.out _ _ (HCT.out) (fun _ => ?_)
            (try simp only [Act.put, List.setIfInBounds_toArray, List.set_cons_zero, List.set_cons_succ])
            clear hK K
            repeat (first | (refine seq_take (v := ?_) rfl ?_ ?_ ?_; rotate_left 1; rfl; (focus (intro wS hSw; obtain ⟨⟨k0, k1, k2, k3⟩, ky⟩ := hSw; go_simp; first | done | with_reducible rfl)); (try simp only [Act.put, List.setIfInBounds_toArray, List.set_cons_zero, List.set_cons_succ])) | (refine seq_skip rfl ?_ ?_; rfl; (try simp only [Act.put, List.setIfInBounds_toArray, List.set_cons_zero, List.set_cons_succ])))
            refine seq_done ?_
            clear HCT HCF HTF
            go_wp2_with fail
            go_roundw
            case rel => exact ⟨q + 1, v7, _, _, by omega, by go_num, HH7, by show _ = _; rw [List.length_set]; exact HC.out, by show _ ≤ _; rw [List.length_append]; have := HL.out; simp; omega⟩
            case measure => simp [intOf]; omega
          · have hql' : ¬ (q : Int) < (len3 : Int) := by omega
            have hMf : IsMem W.heap.size wr p c v C L := HH.out.has 0 _ rfl
            have HMF := Lib.hid hMf
            clear hMf
            go_wp2
            go_ret
            exact ⟨p, c, v, C, L, rfl, HMF.out.weak (Nat.le_trans HBB.out HB.out.size), by rw [HC.out]; exact HM.out.symm, by have := HL.out; omega, below_step' HB.out HH.out.below HB.out.size, fun q hq => Nat.le_trans HB.out.size (HMF.out.foot q hq).1⟩
        · have hqt' : ¬ (q : Int) < t := by omega
          have hMf : IsMem W.heap.size wr p c v C L := HH.out.has 0 _ rfl
          have HMF := Lib.hid hMf
          clear hMf
          go_wp2
          go_ret
          exact ⟨p, c, v, C, L, rfl, HMF.out.weak (Nat.le_trans HBB.out HB.out.size), by rw [HC.out]; exact HM.out.symm, by have := HL.out; omega, below_step' HB.out HH.out.below HB.out.size, fun q hq => Nat.le_trans HB.out.size (HMF.out.foot q hq).1⟩

end Go.Proofs.Ytoogdfjlodchhaa
