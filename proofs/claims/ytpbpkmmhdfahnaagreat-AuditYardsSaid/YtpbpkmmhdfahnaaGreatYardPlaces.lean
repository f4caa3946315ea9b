/-
  Contracts of Words and Values of a yard. No condition but that numbers fit their kinds.
-/
import Derived.Test.YtpbpkmmhdfahnaaGreatYardTells
namespace Go.Proofs.YtpbpkmmhdfahnaaGreat
open Go.RowKit
set_option linter.unusedVariables false

/-- A new list of what stands in one cell of each place. -/
def PlacesPost (C : List Int) (N off : Nat) (w : World) (r : Ending) (w' : World) : Prop :=
  ∃ (u : Value) (Xs : List Int), r = .returned u ∧ w'.ownsRow w.heap.size 38 1 u N (Xs.map u64) ∧ Xs.length = N ∧ (∀ i, i < N → Xs.getD i 0 = C.getD (off + i) 0) ∧ Below w.heap.size w w'

section
variable {W w w' : World} {l : List Thing} {B : YB} {Y : Yd} {J : Nat → Nat} {v vd : Value} {X : List Value}
set_option maxHeartbeats 2000000 in
theorem places_Word {N : Nat} (hl : Lay B.t B.s N) (hC : 2 * N ≤ Y.C.length) (h : YAt W w l B Y J v vd X) :
    Calls Tryz.prog 34 #[pt B.yb, .func (.func 35) #[cf B.t B.s B.so B.d] #[]] w (PlacesPost Y.C N (0) w) := by
  have hn1 := hl.n1
  have hn2 := hl.n2
  obtain ⟨i, hi, hz0, hz1, hz2⟩ := elem_u64.info
  have HI := Lib.hid hi
  have HZ0 := Lib.hid hz0
  have HZ1 := Lib.hid hz1
  have HZ2 := Lib.hid hz2
  have HY := Lib.hid h
  have HLT := Lib.hid h.objAt.lt
  have HC4 := Lib.hid h.cells.c4
  obtain ⟨c0, c1, c2, c3, c4, c5, c6, c7, c8⟩ := h.cells
  clear h hi hz0 hz1 hz2
  go_enter Tryz.func34, Tryz.ntmps34
  go_wp2_with fail
  refine (call_any B.t B.s B.so B.d N _ hl).mono ?_
  rintro r w1 ⟨rfl, hb⟩
  have HB1 := Lib.hid hb
  clear hb
  go_wp2_with (refine wpList_make_full _ rfl _ _ 56 rfl w.heap.size 38 i (.int .u64 0) 1 elem_u64.und HI.out HZ0.out HZ1.out .i64 .i64 _ _ N rfl rfl (by first | rfl | omega) (by first | rfl | omega) (by rw [HZ2.out]; omega) (by unfold maxLen; omega) HB1.out.size ?_; intro w2 hown hgrow)
  have hw2 := below_step HB1.out ((Below.refl _ _).grown hgrow (Nat.le_refl _) (fun k hk => by cases hk))
  rw [toList_made] at hown
  have HR2 := Lib.hid hown
  have HB2 := Lib.hid hw2
  generalize w1.heap.size = g at HR2 ⊢
  clear hown hgrow hw2 c0 c1 c2 c3 c4 c5 c6 c7 c8 HB1
  go_loopw [6, 15] (fun s6 ix wr => ∃ (e : Nat) (Xs : List Int), e ≤ N ∧ ix = .int .i64 e ∧ Hid (wr.ownsRow w.heap.size 38 1 (.slice (some ⟨g, 0, none⟩) N N) N (Xs.map u64)) ∧ Hid (Xs.length = N ∧ ∀ j, j < e → Xs.getD j 0 = Y.C.getD (0 + j) 0) ∧ Hid (Below w.heap.size w wr)) (fun _ ix _ => N - (intOf ix).toNat)
  case atStart => exact ⟨0, _, Nat.zero_le _, rfl, HR2, ⟨List.length_replicate, fun j hj => by omega⟩, HB2⟩
  case round =>
    clear HR2 HB2
    obtain ⟨e, Xs, he, rfl, HR, HX, HB⟩ := hrel
    rcases Nat.lt_or_ge e N with heN | heN
    · have heN' : (e : Int) < (N : Int) := by omega
      have HY1 := Lib.hid (HY.out.later HB.out)
      have HM := Lib.hid (show IsMem W.heap.size wr B.p B.c v Y.C Y.L from HY1.out.hold.has 0 _ HY1.out.mem)
      replace HY1 := Lib.hid (HY1.out.later (Below.refl _ _).drew)
      replace HM := Lib.hid (HM.out.later (Below.refl _ _).drew)
      replace HR := Lib.hid (HR.out.drew)
      replace HB := Lib.hid (below_step HB.out (Below.refl _ _).drew)
      go_wp2_with fail
      refine wp_region_seqS ((fun w' => w'.cell? ⟨B.yb, 4, none⟩ = some (pt B.p))) ((0, true) :: (1, true) :: (2, true) :: (3, true) :: (4, true) :: (5, true) :: (6, true) :: (7, true) :: (8, false) :: (9, false) :: (10, true) :: (11, false) :: []) (by kernel_rfl) (by kernel_rfl) (by kernel_rfl) (by decide) (fun _ _ _ _ _ h => h) (HY1.out.cells.c4) ?_
      repeat (first | (refine seq_take (v := ?_) rfl ?_ ?_ ?_; rotate_left 1; rfl; (focus (intro wS hSw; obtain c4 := hSw; go_simp; first | done | with_reducible rfl)); (try simp only [Act.put, List.setIfInBounds_toArray, List.set_cons_zero, List.set_cons_succ])) | (refine seq_skip rfl ?_ ?_; rfl; (try simp only [Act.put, List.setIfInBounds_toArray, List.set_cons_zero, List.set_cons_succ])))
      refine seq_run rfl (fun K hK => ?_)
      go_simp
      refine (cword_any _ _ _ _ _ _).mono ?_
      rintro r w3 ⟨rfl, hb⟩
      (try go_wp2_with fail)
      replace HM := Lib.hid (HM.out.later hb)
      replace HR := Lib.hid ((Keep.of_below (T := fun _ => False) hb).row HR.out (fun _ _ h => h))
      replace HB := Lib.hid (below_step HB.out hb)
      clear hb
      refine hK.out _ _ (((HB.out.cell (p := ⟨B.yb, 4, none⟩) HLT.out).trans HC4.out)) (fun _ => ?_)
      (try simp only [Act.put, List.setIfInBounds_toArray, List.set_cons_zero, List.set_cons_succ])
      clear hK K
      repeat (first | (refine seq_take (v := ?_) rfl ?_ ?_ ?_; rotate_left 1; rfl; (focus (intro wS hSw; obtain c4 := hSw; go_simp; first | done | with_reducible rfl)); (try simp only [Act.put, List.setIfInBounds_toArray, List.set_cons_zero, List.set_cons_succ])) | (refine seq_skip rfl ?_ ?_; rfl; (try simp only [Act.put, List.setIfInBounds_toArray, List.set_cons_zero, List.set_cons_succ])))
      refine seq_run rfl (fun K hK => ?_)
      go_simp
      go_at_call 52
      refine (peek_in W.heap.size _ B.p B.c _ _ _ (e) _ HM.out (getD_at (by omega))).mono ?_
      rintro r w' ⟨rfl, rfl⟩
      (try go_wp2_with fail)
      have r0 := row_at HR.out heN
      have f0 := HR.out.frozenAt e
      have hg0 := (HR.out.lt g rfl).1
      refine hK.out _ _ (((HB.out.cell (p := ⟨B.yb, 4, none⟩) HLT.out).trans HC4.out)) (fun _ => ?_)
      (try simp only [Act.put, List.setIfInBounds_toArray, List.set_cons_zero, List.set_cons_succ])
      clear hK K
      repeat (first | (refine seq_take (v := ?_) rfl ?_ ?_ ?_; rotate_left 1; rfl; (focus (intro wS hSw; obtain c4 := hSw; go_simp; first | done | with_reducible rfl)); (try simp only [Act.put, List.setIfInBounds_toArray, List.set_cons_zero, List.set_cons_succ])) | (refine seq_skip rfl ?_ ?_; rfl; (try simp only [Act.put, List.setIfInBounds_toArray, List.set_cons_zero, List.set_cons_succ])))
      refine seq_run rfl (fun K hK => ?_)
      go_simp
      have HB4 := Lib.hid (below_set HB.out (p := ⟨g, e, none⟩) hg0 (u64 (Y.C.getD (e) 0)))
      have HR4 := Lib.hid (HR.out.stored e (u64 (Y.C.getD (e) 0))).1
      refine hK.out _ _ (((HB4.out.cell (p := ⟨B.yb, 4, none⟩) HLT.out).trans HC4.out)) (fun _ => ?_)
      (try simp only [Act.put, List.setIfInBounds_toArray, List.set_cons_zero, List.set_cons_succ])
      clear hK K
      refine seq_done ?_
      clear r0 f0 HR HB
      go_wp2_with fail
      go_roundw
      case rel => exact ⟨e + 1, Xs.set e (Y.C.getD (e) 0), by omega, by go_num, by rw [List.map_set]; exact HR4, ⟨by rw [List.length_set]; exact HX.out.1, fun j hj => by
        rw [List.getD_eq_getElem?_getD, List.getElem?_set]
        split
        · rename_i h
          subst h
          rw [if_pos (by have := HX.out.1; omega)]
          exact congrArg (fun q => Y.C.getD q 0) (by omega)
        · rw [← List.getD_eq_getElem?_getD]
          exact HX.out.2 j (by omega)⟩, HB4⟩
      case measure => simp [intOf]; omega
    · obtain rfl : N = e := by omega
      have hnn : ¬ (N : Int) < (N : Int) := by omega
      go_wp2
      go_ret
      exact ⟨_, Xs, rfl, HR.out, HX.out.1, HX.out.2, HB.out⟩
set_option maxHeartbeats 2000000 in
theorem ywords_any {N : Nat} (hl : Lay B.t B.s N) (hC : 2 * N ≤ Y.C.length) (hL : True) (h : YAt W w l B Y J v vd X) :
    Calls Tryz.prog 14 #[pt B.yb] w (PlacesPost Y.C N (0) w) := by
  have hB0 := below_new (Below.refl w.heap.size w) (.cells #[pt B.yb] 24)
  have HY := Lib.hid (h.later hB0)
  have HO := Lib.hid (IsObj.made w [pt B.yb] 24)
  have HB0 := Lib.hid hB0
  clear h hB0
  go_enter Tryz.func14, Tryz.ntmps14
  go_wp2_with fail
  generalize w.alloc (.cells #[pt B.yb] 24) = w0 at HY HO HB0 ⊢
  refine (told_Words (wb := w.heap.size) (R := fun u w' => ∃ Xs : List Int, w'.ownsRow w.heap.size 38 1 u N (Xs.map u64) ∧ Xs.length = N ∧ (∀ i, i < N → Xs.getD i 0 = Y.C.getD (0 + i) 0) ∧ Below w.heap.size w w') HY.out (fun w1 hb => ?_)).mono ?_
  · have HY1 := Lib.hid ((HY.out.later hb).later (Below.refl _ _).drew)
    have HO1 := Lib.hid ((HO.out.later hb).later (Below.refl _ _).drew)
    have HW1 := Lib.hid (below_step (below_step HB0.out hb) (Below.refl _ _).drew)
    clear HY HO HB0 hb
    go_enter Tryz.func33, Tryz.ntmps33
    go_wp2_with fail
    refine wp_region_seqS ((fun w' => AtY w' B vd Y.moves Y.now ∧ w'.cell? ⟨w.heap.size, 0, none⟩ = some (pt B.yb))) ((0, true) :: (1, true) :: (2, true) :: (3, true) :: (4, true) :: (5, false) :: (6, false) :: (7, true) :: []) (by kernel_rfl) (by kernel_rfl) (by kernel_rfl) (by decide) (fun _ _ _ _ _ h => h) (⟨HY1.out.cells, HO1.out.at' 0 _ rfl⟩) ?_
    repeat (first | (refine seq_take (v := ?_) rfl ?_ ?_ ?_; rotate_left 1; rfl; (focus (intro wS hSw; obtain ⟨⟨c0, c1, c2, c3, c4, c5, c6, c7, c8⟩, q0⟩ := hSw; go_simp; first | done | with_reducible rfl)); (try simp only [Act.put, List.setIfInBounds_toArray, List.set_cons_zero, List.set_cons_succ])) | (refine seq_skip rfl ?_ ?_; rfl; (try simp only [Act.put, List.setIfInBounds_toArray, List.set_cons_zero, List.set_cons_succ])))
    refine seq_run rfl (fun K hK => ?_)
    go_simp
    refine hK.out _ _ (⟨HY1.out.cells, HO1.out.at' 0 _ rfl⟩) (fun _ => ?_)
    (try simp only [Act.put, List.setIfInBounds_toArray, List.set_cons_zero, List.set_cons_succ])
    clear hK K
    repeat (first | (refine seq_take (v := ?_) rfl ?_ ?_ ?_; rotate_left 1; rfl; (focus (intro wS hSw; obtain ⟨⟨c0, c1, c2, c3, c4, c5, c6, c7, c8⟩, q0⟩ := hSw; go_simp; first | done | with_reducible rfl)); (try simp only [Act.put, List.setIfInBounds_toArray, List.set_cons_zero, List.set_cons_succ])) | (refine seq_skip rfl ?_ ?_; rfl; (try simp only [Act.put, List.setIfInBounds_toArray, List.set_cons_zero, List.set_cons_succ])))
    refine seq_run rfl (fun K hK => ?_)
    go_simp
    go_at_call 34
    refine (places_Word hl hC HY1.out).mono ?_
    rintro r w2 ⟨u, Xs, rfl, hr, hx, hx2, hb⟩
    (try go_wp2_with fail)
    have HR := Lib.hid hr
    have HX := Lib.hid hx2
    replace HY1 := Lib.hid (HY1.out.later hb)
    replace HO1 := Lib.hid (HO1.out.later hb)
    have HS := Lib.hid HW1.out.size
    replace HW1 := Lib.hid (below_step HW1.out hb)
    clear hr hx2 hb
    refine hK.out _ _ (⟨HY1.out.cells, HO1.out.at' 0 _ rfl⟩) (fun _ => ?_)
    (try simp only [Act.put, List.setIfInBounds_toArray, List.set_cons_zero, List.set_cons_succ])
    clear hK K
    repeat (first | (refine seq_take (v := ?_) rfl ?_ ?_ ?_; rotate_left 1; rfl; (focus (intro wS hSw; obtain ⟨⟨c0, c1, c2, c3, c4, c5, c6, c7, c8⟩, q0⟩ := hSw; go_simp; first | done | with_reducible rfl)); (try simp only [Act.put, List.setIfInBounds_toArray, List.set_cons_zero, List.set_cons_succ])) | (refine seq_skip rfl ?_ ?_; rfl; (try simp only [Act.put, List.setIfInBounds_toArray, List.set_cons_zero, List.set_cons_succ])))
    refine seq_done ?_
    go_wp2
    go_ret
    exact ⟨_, rfl, Xs, row_base HR.out HS.out, hx, HX.out, HW1.out⟩
  · rintro r w2 ⟨u, rfl, Xs, hR⟩
    have HR := Lib.hid hR
    clear hR HY HO HB0
    go_wp2
    go_ret
    exact ⟨_, Xs, rfl, HR.out⟩

end

end Go.Proofs.YtpbpkmmhdfahnaaGreat
