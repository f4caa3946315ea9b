/-
  Contracts of what a yard tells of itself, and of a new one. No condition but that numbers fit their kinds.
-/
import Derived.Test.YtpfjommkjkbonaaGreatYardCalls
namespace Go.Proofs.YtpfjommkjkbonaaGreat
open Go.RowKit
set_option linter.unusedVariables false

section
variable {W w w' : World} {l : List Thing} {B : YB} {Y : Yd} {J : Nat → Nat} {v vd : Value} {X : List Value}

set_option maxHeartbeats 1000000 in
theorem told_Now {R : Value → World → Prop} {wb : Nat} (h : YAt W w l B Y J v vd X) (hin : ∀ w1, Below w.heap.size w w1 → Calls Tryz.prog 66 #[.pointer (some ⟨wb, 0, none⟩)] w1 fun r w' => ∃ u, r = .returned u ∧ R u w') :
    Calls Tryz.prog 65 #[pt B.yb, .func (.func 66) #[] #[.pointer (some ⟨wb, 0, none⟩)]] w fun r w' => ∃ u, r = .returned u ∧ R u w' := by
  have c4 := h.cells.c4
  have HIN := Lib.hid hin
  clear h hin
  go_enter Tryz.func65, Tryz.ntmps65
  go_wp2_with fail
  refine (HIN.out _ (by first | exact Below.refl _ _ | exact below_new (Below.refl _ _) _)).mono ?_
  rintro r w1 ⟨u, rfl, hR⟩
  have HR := Lib.hid hR
  clear hR HIN
  go_wp2
  go_ret
  exact ⟨_, rfl, HR.out⟩

set_option maxHeartbeats 1000000 in
theorem told_Deeds {R : Value → World → Prop} {wb : Nat} (h : YAt W w l B Y J v vd X) (hin : ∀ w1, Below w.heap.size w w1 → Calls Tryz.prog 51 #[.pointer (some ⟨wb, 0, none⟩)] w1 fun r w' => ∃ u, r = .returned u ∧ R u w') :
    Calls Tryz.prog 50 #[pt B.yb, .func (.func 51) #[] #[.pointer (some ⟨wb, 0, none⟩)]] w fun r w' => ∃ u, r = .returned u ∧ R u w' := by
  have c4 := h.cells.c4
  have HIN := Lib.hid hin
  clear h hin
  go_enter Tryz.func50, Tryz.ntmps50
  go_wp2_with fail
  refine (HIN.out _ (by first | exact Below.refl _ _ | exact below_new (Below.refl _ _) _)).mono ?_
  rintro r w1 ⟨u, rfl, hR⟩
  have HR := Lib.hid hR
  clear hR HIN
  go_wp2
  go_ret
  exact ⟨_, rfl, HR.out⟩

set_option maxHeartbeats 1000000 in
theorem told_Log {R : Value → World → Prop} {wb : Nat} (h : YAt W w l B Y J v vd X) (hin : ∀ w1, Below w.heap.size w w1 → Calls Tryz.prog 63 #[.pointer (some ⟨wb, 0, none⟩)] w1 fun r w' => ∃ u, r = .returned u ∧ R u w') :
    Calls Tryz.prog 62 #[pt B.yb, .func (.func 63) #[] #[.pointer (some ⟨wb, 0, none⟩)]] w fun r w' => ∃ u, r = .returned u ∧ R u w' := by
  have c4 := h.cells.c4
  have HIN := Lib.hid hin
  clear h hin
  go_enter Tryz.func62, Tryz.ntmps62
  go_wp2_with fail
  refine (HIN.out _ (by first | exact Below.refl _ _ | exact below_new (Below.refl _ _) _)).mono ?_
  rintro r w1 ⟨u, rfl, hR⟩
  have HR := Lib.hid hR
  clear hR HIN
  go_wp2
  go_ret
  exact ⟨_, rfl, HR.out⟩

set_option maxHeartbeats 1000000 in
theorem told_Conf {wb : Nat} (h : YAt W w l B Y J v vd X) (hin : ∀ w1, Below w.heap.size w w1 → Calls Tryz.prog 46 #[.pointer (some ⟨wb, 0, none⟩)] w1 fun r w' => r = .returned (cf B.t B.s B.so B.d) ∧ Below w1.heap.size w1 w') :
    Calls Tryz.prog 45 #[pt B.yb, .func (.func 46) #[] #[.pointer (some ⟨wb, 0, none⟩)]] w fun r w' => r = .returned (cf B.t B.s B.so B.d) ∧ Below w.heap.size w w' := by
  have c4 := h.cells.c4
  have HIN := Lib.hid hin
  have HO := Lib.hid (IsObj.made w [i64 0, i64 0, i64 0, i64 0] 24)
  have hB0 := below_new (Below.refl w.heap.size w) (.cells #[i64 0, i64 0, i64 0, i64 0] 24)
  have HB0 := Lib.hid hB0
  have hlt := h.objAt.lt
  clear h hin hB0
  go_enter Tryz.func45, Tryz.ntmps45
  go_wp2_with fail
  refine (HIN.out _ HB0.out).mono ?_
  rintro r w1 ⟨rfl, hb⟩
  have HB1 := Lib.hid (below_step HB0.out hb)
  have HO1 := Lib.hid (HO.out.later hb)
  have q0 := HO1.out.at' 0 _ rfl
  have q1 := HO1.out.at' 1 _ rfl
  have q2 := HO1.out.at' 2 _ rfl
  have q3 := HO1.out.at' 3 _ rfl
  have f0 := HO1.out.fz 0
  have f1 := HO1.out.fz 1
  have f2 := HO1.out.fz 2
  have f3 := HO1.out.fz 3
  clear hb HIN HB0 HO
  go_wp2
  have HO5 := Lib.hid ((((HO1.out.set 0 (i64 B.t)).set 1 (i64 B.s)).set 2 (i64 B.so)).set 3 (i64 B.d))
  have HB5 : Below w.heap.size w ((((w1.setCell ⟨w.heap.size, 0, none⟩ (i64 B.t)).setCell ⟨w.heap.size, 1, none⟩ (i64 B.s)).setCell ⟨w.heap.size, 2, none⟩ (i64 B.so)).setCell ⟨w.heap.size, 3, none⟩ (i64 B.d)) := below_set (below_set (below_set (below_set HB1.out (by simp) _) (by simp) _) (by simp) _) (by simp) _
  generalize ((((w1.setCell ⟨w.heap.size, 0, none⟩ (i64 B.t)).setCell ⟨w.heap.size, 1, none⟩ (i64 B.s)).setCell ⟨w.heap.size, 2, none⟩ (i64 B.so)).setCell ⟨w.heap.size, 3, none⟩ (i64 B.d)) = w5 at HO5 HB5 ⊢
  have r0 := HO5.out.at' 0 _ rfl
  have r1 := HO5.out.at' 1 _ rfl
  have r2 := HO5.out.at' 2 _ rfl
  have r3 := HO5.out.at' 3 _ rfl
  exact bodyPost_ret (v := cf B.t B.s B.so B.d) (by simp [results, Tryz.results45, go_sem, r0, r1, r2, r3]) rfl ⟨rfl, HB5⟩
set_option maxHeartbeats 1000000 in
theorem yconf_any (h : YAt W w l B Y J v vd X) :
    Calls Tryz.prog 21 #[pt B.yb] w fun r w' => r = .returned (cf B.t B.s B.so B.d) ∧ Below w.heap.size w w' := by
  have hB0 := below_new (below_new (Below.refl w.heap.size w) (.cells #[pt B.yb] 41)) (.cells #[i64 0, i64 0, i64 0, i64 0] 24)
  have HY := Lib.hid (h.later hB0)
  have HO : Hid (IsObj ((w.alloc (.cells #[pt B.yb] 41)).alloc (.cells #[.int .i64 0, .int .i64 0, .int .i64 0, .int .i64 0] 24)) w.heap.size [pt B.yb]) := Lib.hid ((IsObj.made w [pt B.yb] 41).later (below_new (Below.refl _ _) (.cells #[i64 0, i64 0, i64 0, i64 0] 24)))
  have HC : Hid (IsObj ((w.alloc (.cells #[pt B.yb] 41)).alloc (.cells #[.int .i64 0, .int .i64 0, .int .i64 0, .int .i64 0] 24)) (w.heap.size + 1) [i64 0, i64 0, i64 0, i64 0]) := Lib.hid (by have h := IsObj.made (w.alloc (.cells #[pt B.yb] 41)) [i64 0, i64 0, i64 0, i64 0] 24; simp only [World.size_alloc] at h; exact h)
  have HB0 : Hid (Below w.heap.size w ((w.alloc (.cells #[pt B.yb] 41)).alloc (.cells #[.int .i64 0, .int .i64 0, .int .i64 0, .int .i64 0] 24))) := Lib.hid hB0
  clear h hB0
  go_enter Tryz.func21, Tryz.ntmps21
  go_wp2_with fail
  generalize ((w.alloc (.cells #[pt B.yb] 41)).alloc (.cells #[.int .i64 0, .int .i64 0, .int .i64 0, .int .i64 0] 24)) = w0 at HY HO HC HB0 ⊢
  refine (told_Conf (wb := w.heap.size) HY.out (fun w1 hb => ?_)).mono ?_
  · have HY1 := Lib.hid (HY.out.later hb)
    have q0 := (HO.out.later hb).at' 0 _ rfl
    have hltb : w.heap.size < w1.heap.size := (HO.out.later hb).lt
    have hlty := HY1.out.objAt.lt
    obtain ⟨c0, c1, c2, c3, c4, c5, c6, c7, c8⟩ := HY1.out.cells
    have HO1 := Lib.hid (IsObj.made w1 [i64 0, i64 0, i64 0, i64 0] 24)
    have HB1 := Lib.hid (below_new (Below.refl w1.heap.size w1) (.cells #[i64 0, i64 0, i64 0, i64 0] 24))
    clear HY HO HB0 hb HC
    go_enter Tryz.func46, Tryz.ntmps46
    go_wp2
    exact bodyPost_ret (v := cf B.t B.s B.so B.d) (by simp [results, Tryz.results46, go_sem]) rfl ⟨rfl, below_new (Below.refl _ _) _⟩
  · rintro r w2 ⟨rfl, hb⟩
    have HB1 := Lib.hid (below_step HB0.out hb)
    have HO1 := Lib.hid (HC.out.later hb)
    clear hb
    have q0 := HO1.out.at' 0 _ rfl
    have q1 := HO1.out.at' 1 _ rfl
    have q2 := HO1.out.at' 2 _ rfl
    have q3 := HO1.out.at' 3 _ rfl
    have f0 := HO1.out.fz 0
    have f1 := HO1.out.fz 1
    have f2 := HO1.out.fz 2
    have f3 := HO1.out.fz 3
    go_wp2
    have HO5 := Lib.hid ((((HO1.out.set 0 (i64 B.t)).set 1 (i64 B.s)).set 2 (i64 B.so)).set 3 (i64 B.d))
    have HB5 : Below w.heap.size w ((((w2.setCell ⟨w.heap.size + 1, 0, none⟩ (i64 B.t)).setCell ⟨w.heap.size + 1, 1, none⟩ (i64 B.s)).setCell ⟨w.heap.size + 1, 2, none⟩ (i64 B.so)).setCell ⟨w.heap.size + 1, 3, none⟩ (i64 B.d)) := below_set (below_set (below_set (below_set HB1.out (by simp) _) (by simp) _) (by simp) _) (by simp) _
    generalize ((((w2.setCell ⟨w.heap.size + 1, 0, none⟩ (i64 B.t)).setCell ⟨w.heap.size + 1, 1, none⟩ (i64 B.s)).setCell ⟨w.heap.size + 1, 2, none⟩ (i64 B.so)).setCell ⟨w.heap.size + 1, 3, none⟩ (i64 B.d)) = w5 at HO5 HB5 ⊢
    have r0 := HO5.out.at' 0 _ rfl
    have r1 := HO5.out.at' 1 _ rfl
    have r2 := HO5.out.at' 2 _ rfl
    have r3 := HO5.out.at' 3 _ rfl
    exact bodyPost_ret (v := cf B.t B.s B.so B.d) (by simp [results, Tryz.results21, go_sem, r0, r1, r2, r3]) rfl ⟨rfl, HB5⟩


set_option maxHeartbeats 1000000 in
theorem ynow_any (h : YAt W w l B Y J v vd X) :
    Calls Tryz.prog 42 #[pt B.yb] w fun r w' => r = .returned (i64 Y.now) ∧ Below w.heap.size w w' := by
  have hB0 := below_new (Below.refl w.heap.size w) (.cells #[pt B.yb] 41)
  have HY := Lib.hid (h.later hB0)
  have HO := Lib.hid (IsObj.made w [pt B.yb] 41)
  have HB0 := Lib.hid hB0
  clear h hB0
  go_enter Tryz.func42, Tryz.ntmps42
  go_wp2_with fail
  generalize w.alloc (.cells #[pt B.yb] 41) = w0 at HY HO HB0 ⊢
  refine (told_Now (wb := w.heap.size) (R := fun u w' => u = i64 Y.now ∧ Below w.heap.size w w') HY.out (fun w1 hb => ?_)).mono ?_
  · have HY1 := Lib.hid (HY.out.later hb)
    have q0 := (HO.out.later hb).at' 0 _ rfl
    have hw1 := below_step HB0.out hb
    have HW1 := Lib.hid hw1
    obtain ⟨c0, c1, c2, c3, c4, c5, c6, c7, c8⟩ := HY1.out.cells
    clear HY HO HB0 hb hw1
    go_enter Tryz.func66, Tryz.ntmps66
    go_wp2
    go_ret
    exact ⟨_, rfl, rfl, HW1.out⟩
  · rintro r w2 ⟨u, rfl, hR⟩
    have HR := Lib.hid hR
    clear hR HY HO HB0
    go_wp2
    go_ret
    exact ⟨by rw [HR.out.1]; rfl, HR.out.2⟩

set_option maxHeartbeats 1000000 in
theorem ylog_any (h : YAt W w l B Y J v vd X) (hL : Y.L.length ≤ 1000000000) :
    Calls Tryz.prog 41 #[pt B.yb] w fun r w' => LogPost Y.L w r w' := by
  have hB0 := below_new (Below.refl w.heap.size w) (.cells #[pt B.yb] 41)
  have HY := Lib.hid (h.later hB0)
  have HO := Lib.hid (IsObj.made w [pt B.yb] 41)
  have HB0 := Lib.hid hB0
  clear h hB0
  go_enter Tryz.func41, Tryz.ntmps41
  go_wp2_with fail
  generalize w.alloc (.cells #[pt B.yb] 41) = w0 at HY HO HB0 ⊢
  refine (told_Log (wb := w.heap.size) (R := fun u w' => w'.ownsRow w.heap.size 94 6 u Y.L.length (flatE Y.L) ∧ Below w.heap.size w w') HY.out (fun w1 hb => ?_)).mono ?_
  · have HY1 := Lib.hid (HY.out.later hb)
    have q0 := (HO.out.later hb).at' 0 _ rfl
    have hw1 := below_step HB0.out hb
    have HW1 := Lib.hid hw1
    obtain ⟨c0, c1, c2, c3, c4, c5, c6, c7, c8⟩ := HY1.out.cells
    clear HY HO HB0 hb hw1
    have HM := Lib.hid (show IsMem W.heap.size w1 B.p B.c v Y.C Y.L from HY1.out.hold.has 0 _ HY1.out.mem)
    clear HY1
    go_enter Tryz.func63, Tryz.ntmps63
    go_wp2_with fail
    refine (log_any _ _ _ _ _ _ _ HM.out hL).mono ?_
    rintro r w2 ⟨u, rfl, hr, hb⟩
    have HR := Lib.hid hr
    have HB := Lib.hid hb
    clear hr hb
    go_wp2
    go_ret
    exact ⟨_, rfl, row_base HR.out (HW1.out.size), below_step HW1.out HB.out⟩
  · rintro r w2 ⟨u, rfl, hR⟩
    have HR := Lib.hid hR
    clear hR HY HO HB0
    go_wp2
    go_ret
    exact ⟨_, rfl, HR.out⟩

/-- A new list of deeds: its cells are in no block that was there, and nothing that was there has turned. -/
def DeedsPost (L : List Dd) (w : World) (r : Ending) (w' : World) : Prop :=
  ∃ v, r = .returned v ∧ w'.ownsRow w.heap.size 76 11 v L.length (flatD L) ∧ Below w.heap.size w w'

set_option maxHeartbeats 1000000 in
theorem cloned_any (base : Nat) (w : World) (v : Value) (L : List Dd) (h : w.ownsRow base 76 11 v L.length (flatD L)) (hL : L.length ≤ 1000000000) :
    Calls Tryz.prog 52 #[v] w (DeedsPost L w) := by
  rcases h.2 with ⟨rfl, h0⟩ | ⟨g, cap, cur, rfl, _, _⟩
  · have hl : L = [] := List.eq_nil_of_length_eq_zero h0
    subst hl
    clear h h0
    have q := fun W => run_eql_nil_slice (P := Tryz.prog) W 61 76 none 0 0 0 0 Tryz.underlying61
    go_enter Tryz.func52, Tryz.ntmps52
    go_wp2
    go_ret
    exact ⟨_, rfl, World.ownsRow_nil _ _ _ _, Below.refl _ _⟩
  · have hs := srcd_row h
    have Hs := Lib.hid hs
    clear hs h
    have q := fun W => Lib.run_eql_slice_nil (P := Tryz.prog) W 61 76 (some ⟨g, 0, none⟩) L.length cap 0 0 Tryz.underlying61
    go_enter Tryz.func52, Tryz.ntmps52
    go_wp2_with (at_builtin; refine list_append_grew rfl _ _ 61 rfl w.heap.size 76 _ 11 88 elem_dd (.slice (some ⟨w.heap.size, 0, none⟩) 0 0) 0 [] rfl (World.ownsRow_made w #[] 0 (Nat.le_refl _) (by unfold maxLen; omega) rfl) (some ⟨g, 0, none⟩) L.length cap (flatD L) rfl (src_later Hs.out (below_new (Below.refl _ _) _)) (by unfold maxLen; omega) (by omega) (by simp) ?_; intro v' w1 hG)
    go_ret
    rw [Nat.zero_add, List.nil_append] at hG
    exact ⟨_, rfl, hG.own, below_keep (below_new (Below.refl _ _) _) (Keep.of_grown (T := fun k => w.heap.size ≤ k) hG.grown (fun k hk => by cases hk; exact Nat.le_refl _)) (by simp) (fun i hi => hi)⟩

set_option maxHeartbeats 1000000 in
theorem ydeeds_any (h : YAt W w l B Y J v vd X) (hL : Y.ds.length ≤ 1000000000) :
    Calls Tryz.prog 25 #[pt B.yb] w fun r w' => DeedsPost Y.ds w r w' := by
  have hB0 := below_new (Below.refl w.heap.size w) (.cells #[pt B.yb] 41)
  have HY := Lib.hid (h.later hB0)
  have HO := Lib.hid (IsObj.made w [pt B.yb] 41)
  have HB0 := Lib.hid hB0
  clear h hB0
  go_enter Tryz.func25, Tryz.ntmps25
  go_wp2_with fail
  generalize w.alloc (.cells #[pt B.yb] 41) = w0 at HY HO HB0 ⊢
  refine (told_Deeds (wb := w.heap.size) (R := fun u w' => w'.ownsRow w.heap.size 76 11 u Y.ds.length (flatD Y.ds) ∧ Below w.heap.size w w') HY.out (fun w1 hb => ?_)).mono ?_
  · have HY1 := Lib.hid (HY.out.later hb)
    have q0 := (HO.out.later hb).at' 0 _ rfl
    have hw1 := below_step HB0.out hb
    have HW1 := Lib.hid hw1
    obtain ⟨c0, c1, c2, c3, c4, c5, c6, c7, c8⟩ := HY1.out.cells
    clear HY HO HB0 hb hw1
    have HOW := Lib.hid HY1.out.own
    obtain ⟨A0, cap0, rfl⟩ := own_shape HOW.out
    clear HY1
    go_enter Tryz.func51, Tryz.ntmps51
    go_wp2_with fail
    refine (cloned_any _ _ _ _ HOW.out hL).mono ?_
    rintro r w2 ⟨u, rfl, hr, hb⟩
    have HR := Lib.hid hr
    have HB := Lib.hid hb
    clear hr hb
    go_wp2
    go_ret
    exact ⟨_, rfl, row_base HR.out (HW1.out.size), below_step HW1.out HB.out⟩
  · rintro r w2 ⟨u, rfl, hR⟩
    have HR := Lib.hid hR
    clear hR HY HO HB0
    go_wp2
    go_ret
    exact ⟨_, rfl, HR.out⟩


set_option maxHeartbeats 1000000 in
theorem ynew_no (t s so d : Int) (w : World) (hr : rightC t s so d = false) :
    Calls Tryz.prog 15 #[cf t s so d] w fun r w' => r = .returned (.tuple #[.pointer none, i64 1]) ∧ Below w.heap.size w w' := by
  have HR := fun w => cright_any t s so d w
  rw [hr] at HR
  replace HR := Lib.hid HR
  have hB0 := below_new (Below.refl w.heap.size w) (.cells #[i64 t, i64 s, i64 so, i64 d] 24)
  have HB0 := Lib.hid hB0
  clear hr hB0
  go_enter Tryz.func15, Tryz.ntmps15
  go_wp2_with fail
  refine (HR.out _).mono ?_
  rintro r w1 ⟨rfl, hb⟩
  have HB1 := Lib.hid (below_step HB0.out hb)
  clear hb
  go_wp2
  go_ret2
  exact ⟨rfl, HB1.out⟩

theorem elem_th : ElemAt Tryz.prog 85 115 (.agg #[.pointer none, .int .i64 0]) 2 16 :=
  ElemAt.mk' Tryz.underlying85 (by kernel_rfl) rfl (by decide)
/-- A row of threads that have nothing. -/
def thRow (T : Nat) : List Value := (madeCells (Value.agg #[.pointer none, .int .i64 0]).cells (T * 2)).toList
theorem thRow_len (T : Nat) : (thRow T).length = T * 2 := by
  unfold thRow
  rw [Array.length_toList, size_madeCells]
theorem thRow_at {T k : Nat} (hk : k < T) : (thRow T)[k * 2]? = some (.pointer none) := by
  unfold thRow madeCells
  rw [Array.getElem?_toList, Array.getElem?_map, Array.getElem?_range, if_pos (by omega)]
  show some ((#[Value.pointer none, Value.int .i64 0] : Array Value)[k * 2 % 2]!) = _
  rw [Nat.mul_mod_left]
  rfl
theorem obj_of_row {w : World} {base : Nat} {e : TypeId} {sz n cap g : Nat} {xs : List Value} (h : w.ownsRow base e sz (.slice (some ⟨g, 0, none⟩) n cap) n xs) : IsObj w g xs ∧ base ≤ g :=
  ⟨⟨fun j x hj => (h.cellAt j (by have := h.1; have := (List.getElem?_eq_some_iff.1 hj).1; omega)).trans hj, fun o => h.frozenAt o, (h.lt _ rfl).2⟩, (h.lt _ rfl).1⟩

theorem Hold.rot {W w : World} {a b c : Thing} (h : Hold W w [a, b, c]) : Hold W w [b, c, a] :=
  h.sel (fun j => if j = 0 then 1 else if j = 1 then 2 else 0) (fun i A hi => by
    match i with
    | 0 => exact hi
    | 1 => exact hi
    | 2 => exact hi
    | i + 3 => simp at hi) (fun i j hi hj he => by
    simp only [List.length_cons, List.length_nil] at hi hj
    split at he <;> split at he <;> (try split at he) <;> (try split at he) <;> omega)
/-- What New leaves. -/
def NewYard (W w : World) (T : Nat) (s so d : Int) (n : Nat) (r : Ending) (w' : World) : Prop :=
  ∃ yb tb p c l, r = .returned (.tuple #[pt yb, i64 0]) ∧ l.length = 4 ∧ YH W w' l ⟨yb, tb, p, c, T, s, so, d, T⟩ ⟨List.replicate n 0, [], 0, 0, List.replicate T none, []⟩ (fun _ => 0) ∧ Below w.heap.size w w' ∧ w.heap.size ≤ yb
theorem new_yard {W w w' : World} {T n : Nat} {s so d : Int} {yb tb p c : Nat} (hB : Below w.heap.size w w') (hy : w.heap.size ≤ yb) (h : Hold W w' [tMem W.heap.size p c (.slice none 0 0) (List.replicate n 0) [], tObj W.heap.size yb [i64 T, i64 s, i64 so, i64 d, pt p, .slice (some ⟨tb, 0, none⟩) T T, .slice none 0 0, i64 0, i64 0], tObj W.heap.size tb (thRow T)]) :
    NewYard W w T s so d n (.returned (.tuple #[pt yb, i64 0])) w' :=
  have hH : Hold W w' ([tMem W.heap.size p c (.slice none 0 0) (List.replicate n 0) [], tObj W.heap.size yb [i64 T, i64 s, i64 so, i64 d, pt p, .slice (some ⟨tb, 0, none⟩) T T, .slice none 0 0, i64 0, i64 0], tObj W.heap.size tb (thRow T)] ++ [tRow W.heap.size 76 11 (.slice none 0 0) 0 []]) := h.more (Below.refl _ _) (tRow_ok _ _ _ _ _ _) (World.ownsRow_nil _ _ _ _) (fun q hq => by cases hq)
  have h1 : ∀ (k : Nat), (List.replicate T (none : Option (Wk × Nat)))[k]? = some none → (thRow T)[k * 2]? = some (.pointer none) := fun k hk => by
    rw [List.getElem?_replicate] at hk
    split at hk
    · exact thRow_at (by assumption)
    · cases hk
  have h2 : ∀ (k : Nat) (a : Wk × Nat), ¬ (List.replicate T (none : Option (Wk × Nat)))[k]? = some (some a) := fun k a hk => by
    rw [List.getElem?_replicate] at hk
    split at hk <;> cases hk
  ⟨yb, tb, p, c, _, rfl, rfl, ⟨_, _, _, hH, rfl, rfl, rfl, rfl, rfl, thRow_len T, List.length_replicate, h1, (fun k T' i hk => (h2 k _ hk).elim), (fun k k' a a' hk => (h2 k _ hk).elim)⟩, hB, hy⟩

set_option maxRecDepth 100000 in
set_option maxHeartbeats 4000000 in
theorem ynew_yes (T : Nat) (s so d : Int) (N : Nat) (hB : Below W.heap.size W w) (hl : Lay T s N) (o0 : 0 ≤ so) (o1 : so ≤ 4) (d0 : 0 ≤ d) (d1 : d ≤ 100) :
    Calls Tryz.prog 15 #[cf T s so d] w (NewYard W w T s so d (2 * N + 2 * T)) := by
  have hr : rightC T s so d = true := decide_eq_true ⟨hl.t1, hl.t2, hl.s1, hl.s2, o0, o1, d0, d1⟩
  have HR := fun w => cright_any T s so d w
  rw [hr] at HR
  replace HR := Lib.hid HR
  have t2 := hl.t2
  have n2 := hl.n2
  obtain ⟨i, hi, hz0, hz1, hz2⟩ := elem_th.info
  have HI := Lib.hid hi
  have HZ0 := Lib.hid hz0
  have HZ1 := Lib.hid hz1
  have HZ2 := Lib.hid hz2
  have hB0 := below_new (Below.refl w.heap.size w) (.cells #[i64 T, i64 s, i64 so, i64 d] 24)
  have HO := Lib.hid (IsObj.made w [i64 T, i64 s, i64 so, i64 d] 24)
  have HB0 := Lib.hid hB0
  have HW := Lib.hid hB
  clear hr hB0 hi hz0 hz1 hz2 hB
  go_enter Tryz.func15, Tryz.ntmps15
  go_wp2_with fail
  refine (HR.out _).mono ?_
  rintro r w1 ⟨rfl, hb⟩
  have HB1 := Lib.hid (below_step HB0.out hb)
  have HO1 := Lib.hid (HO.out.later hb)
  clear hb HB0 HO
  go_wp2_with fail
  replace HB1 := Lib.hid (below_step HB1.out (Below.refl _ _).drew)
  replace HO1 := Lib.hid (HO1.out.later (Below.refl _ _).drew)
  have HH := Lib.hid (Hold.nil (below_step' HW.out HB1.out HW.out.size))
  refine wp_region_seqT (fun w' => IsObj w' w.heap.size [i64 T, i64 s, i64 so, i64 d]) (.take 0 (.take 1 (.take 4 (.take 5 (.two 2 (.two 3 (.one 6 (.take 7 (.one 8 (.take 9 (.take 10 .nil))))) 6 (.one 3 (.take 7 (.one 8 (.take 9 (.take 10 .nil)))))) 6 (.one 2 (.one 3 (.take 7 (.one 8 (.take 9 (.take 10 .nil))))))))))) (by kernel_rfl) (by kernel_rfl) (by kernel_rfl) (by decide) (fun _ _ _ _ _ h => h) HO1.out ?_
  repeat (refine seqT_take (v := ?_) rfl ?_ ?_ ?_; rotate_left 1; rfl; (focus (intro wS hSw; have q0 := hSw.at' 0 _ rfl; have q1 := hSw.at' 1 _ rfl; have q2 := hSw.at' 2 _ rfl; have q3 := hSw.at' 3 _ rfl; go_simp; first | done | with_reducible rfl)); (try simp only [Act.put, List.setIfInBounds_toArray, List.set_cons_zero, List.set_cons_succ]))
  refine ⟨?_, ?_⟩
  · skip
    refine runT rfl (fun K hK => ?_)
    go_simp
    go_at_call 37
    refine (ccells_any T s so d N _ hl).mono ?_
    rintro r w2 ⟨rfl, hb⟩
    (try go_wp2_with fail)
    replace HB1 := Lib.hid (below_step HB1.out hb)
    replace HO1 := Lib.hid (HO1.out.later hb)
    replace HH := Lib.hid (HH.out.later hb)
    clear hb
    refine hK.out _ _ HO1.out (fun _ => ?_)
    (try simp only [Act.put, List.setIfInBounds_toArray, List.set_cons_zero, List.set_cons_succ])
    clear hK K
    refine ⟨?_, ?_⟩
    · skip
      refine runT rfl (fun K hK => ?_)
      go_simp
      go_at_call 36
      refine (new_nat W.heap.size (2 * N + 2 * T) _ _ HH.out.size (by omega) (.inl (by omega))).mono ?_
      rintro r w3 ⟨p, c, rfl, hM, hb, hp, hc⟩
      (try go_wp2_with fail)
      replace HB1 := Lib.hid (below_step HB1.out hb)
      replace HO1 := Lib.hid (HO1.out.later hb)
      replace HH := Lib.hid (HH.out.more hb (tMem_ok _ _ _ _ _ _) hM (fun q hq => by
        rcases hq with rfl | rfl | hq
        · exact hp
        · exact hc
        · cases hq))
      clear hb hM hp hc
      refine hK.out _ _ HO1.out (fun _ => ?_)
      (try simp only [Act.put, List.setIfInBounds_toArray, List.set_cons_zero, List.set_cons_succ])
      clear hK K
      refine runT rfl (fun K hK => ?_)
      refine step_make_full rfl _ _ 85 rfl W.heap.size 115 i (.agg #[.pointer none, .int .i64 0]) 2 elem_th.und HI.out HZ0.out HZ1.out .i64 .i64 T rfl rfl (by rw [HZ2.out]; omega) (by unfold maxLen; omega) HH.out.size ?_
      intro w4 hown hg
      have hb := (Below.refl _ _).grown hg (Nat.le_refl _) (fun k hk => by cases hk)
      replace HB1 := Lib.hid (below_step HB1.out hb)
      replace HO1 := Lib.hid (HO1.out.later hb)
      replace HH := Lib.hid (HH.out.more (A := tObj W.heap.size _ (thRow T)) hb (tObj_ok _ _ _) (obj_of_row hown) (fun q hq => by cases hq; exact Nat.le_refl _))
      clear hb hown hg
      refine hK.out _ _ HO1.out (fun _ => ?_)
      (try simp only [Act.put, List.setIfInBounds_toArray, List.set_cons_zero, List.set_cons_succ])
      clear hK K
      repeat (refine seqT_take (v := ?_) rfl ?_ ?_ ?_; rotate_left 1; rfl; (focus (intro wS hSw; go_simp; first | done | with_reducible rfl)); (try simp only [Act.put, List.setIfInBounds_toArray, List.set_cons_zero, List.set_cons_succ]))
      refine runT rfl (fun K hK => ?_)
      go_simp
      have hb := below_new (Below.refl w4.heap.size w4) (.cells #[i64 T, i64 s, i64 so, i64 d, pt p, .slice (some ⟨w3.heap.size, 0, none⟩) T T, .slice none 0 0, i64 0, i64 0] 87)
      have hE := HH.out.more (A := tObj W.heap.size w4.heap.size [i64 T, i64 s, i64 so, i64 d, pt p, .slice (some ⟨w3.heap.size, 0, none⟩) T T, .slice none 0 0, i64 0, i64 0]) hb (tObj_ok _ _ _) ⟨IsObj.made w4 [i64 T, i64 s, i64 so, i64 d, pt p, .slice (some ⟨w3.heap.size, 0, none⟩) T T, .slice none 0 0, i64 0, i64 0] 87, HH.out.size⟩ (fun q hq => by cases hq; exact Nat.le_refl _)
      have HE := Lib.hid hE
      have HS := Lib.hid HB1.out.size
      replace HB1 := Lib.hid (below_step HB1.out hb)
      replace HO1 := Lib.hid (HO1.out.later hb)
      clear hb hE HH
      refine hK.out _ _ HO1.out (fun _ => ?_)
      (try simp only [Act.put, List.setIfInBounds_toArray, List.set_cons_zero, List.set_cons_succ])
      clear hK K
      repeat (refine seqT_take (v := ?_) rfl ?_ ?_ ?_; rotate_left 1; rfl; (focus (intro wS hSw; go_simp; first | done | with_reducible rfl)); (try simp only [Act.put, List.setIfInBounds_toArray, List.set_cons_zero, List.set_cons_succ]))
      refine seqT_done ?_
      go_wp2
      go_ret2
      exact new_yard HB1.out HS.out (HE.out.swap)
    · skip
      refine runT rfl (fun K hK => ?_)
      refine step_make_full rfl _ _ 85 rfl W.heap.size 115 i (.agg #[.pointer none, .int .i64 0]) 2 elem_th.und HI.out HZ0.out HZ1.out .i64 .i64 T rfl rfl (by rw [HZ2.out]; omega) (by unfold maxLen; omega) HH.out.size ?_
      intro w4 hown hg
      have hb := (Below.refl _ _).grown hg (Nat.le_refl _) (fun k hk => by cases hk)
      replace HB1 := Lib.hid (below_step HB1.out hb)
      replace HO1 := Lib.hid (HO1.out.later hb)
      replace HH := Lib.hid (HH.out.more (A := tObj W.heap.size _ (thRow T)) hb (tObj_ok _ _ _) (obj_of_row hown) (fun q hq => by cases hq; exact Nat.le_refl _))
      clear hb hown hg
      refine hK.out _ _ HO1.out (fun _ => ?_)
      (try simp only [Act.put, List.setIfInBounds_toArray, List.set_cons_zero, List.set_cons_succ])
      clear hK K
      refine runT rfl (fun K hK => ?_)
      go_simp
      go_at_call 36
      refine (new_nat W.heap.size (2 * N + 2 * T) _ _ HH.out.size (by omega) (.inl (by omega))).mono ?_
      rintro r w3 ⟨p, c, rfl, hM, hb, hp, hc⟩
      (try go_wp2_with fail)
      replace HB1 := Lib.hid (below_step HB1.out hb)
      replace HO1 := Lib.hid (HO1.out.later hb)
      replace HH := Lib.hid (HH.out.more hb (tMem_ok _ _ _ _ _ _) hM (fun q hq => by
        rcases hq with rfl | rfl | hq
        · exact hp
        · exact hc
        · cases hq))
      clear hb hM hp hc
      refine hK.out _ _ HO1.out (fun _ => ?_)
      (try simp only [Act.put, List.setIfInBounds_toArray, List.set_cons_zero, List.set_cons_succ])
      clear hK K
      repeat (refine seqT_take (v := ?_) rfl ?_ ?_ ?_; rotate_left 1; rfl; (focus (intro wS hSw; go_simp; first | done | with_reducible rfl)); (try simp only [Act.put, List.setIfInBounds_toArray, List.set_cons_zero, List.set_cons_succ]))
      refine runT rfl (fun K hK => ?_)
      go_simp
      have hb := below_new (Below.refl w3.heap.size w3) (.cells #[i64 T, i64 s, i64 so, i64 d, pt p, .slice (some ⟨w2.heap.size, 0, none⟩) T T, .slice none 0 0, i64 0, i64 0] 87)
      have hE := HH.out.more (A := tObj W.heap.size w3.heap.size [i64 T, i64 s, i64 so, i64 d, pt p, .slice (some ⟨w2.heap.size, 0, none⟩) T T, .slice none 0 0, i64 0, i64 0]) hb (tObj_ok _ _ _) ⟨IsObj.made w3 [i64 T, i64 s, i64 so, i64 d, pt p, .slice (some ⟨w2.heap.size, 0, none⟩) T T, .slice none 0 0, i64 0, i64 0] 87, HH.out.size⟩ (fun q hq => by cases hq; exact Nat.le_refl _)
      have HE := Lib.hid hE
      have HS := Lib.hid HB1.out.size
      replace HB1 := Lib.hid (below_step HB1.out hb)
      replace HO1 := Lib.hid (HO1.out.later hb)
      clear hb hE HH
      refine hK.out _ _ HO1.out (fun _ => ?_)
      (try simp only [Act.put, List.setIfInBounds_toArray, List.set_cons_zero, List.set_cons_succ])
      clear hK K
      repeat (refine seqT_take (v := ?_) rfl ?_ ?_ ?_; rotate_left 1; rfl; (focus (intro wS hSw; go_simp; first | done | with_reducible rfl)); (try simp only [Act.put, List.setIfInBounds_toArray, List.set_cons_zero, List.set_cons_succ]))
      refine seqT_done ?_
      go_wp2
      go_ret2
      exact new_yard HB1.out HS.out (HE.out.rot)
  · skip
    refine runT rfl (fun K hK => ?_)
    refine step_make_full rfl _ _ 85 rfl W.heap.size 115 i (.agg #[.pointer none, .int .i64 0]) 2 elem_th.und HI.out HZ0.out HZ1.out .i64 .i64 T rfl rfl (by rw [HZ2.out]; omega) (by unfold maxLen; omega) HH.out.size ?_
    intro w4 hown hg
    have hb := (Below.refl _ _).grown hg (Nat.le_refl _) (fun k hk => by cases hk)
    replace HB1 := Lib.hid (below_step HB1.out hb)
    replace HO1 := Lib.hid (HO1.out.later hb)
    replace HH := Lib.hid (HH.out.more (A := tObj W.heap.size _ (thRow T)) hb (tObj_ok _ _ _) (obj_of_row hown) (fun q hq => by cases hq; exact Nat.le_refl _))
    clear hb hown hg
    refine hK.out _ _ HO1.out (fun _ => ?_)
    (try simp only [Act.put, List.setIfInBounds_toArray, List.set_cons_zero, List.set_cons_succ])
    clear hK K
    refine runT rfl (fun K hK => ?_)
    go_simp
    go_at_call 37
    refine (ccells_any T s so d N _ hl).mono ?_
    rintro r w2 ⟨rfl, hb⟩
    (try go_wp2_with fail)
    replace HB1 := Lib.hid (below_step HB1.out hb)
    replace HO1 := Lib.hid (HO1.out.later hb)
    replace HH := Lib.hid (HH.out.later hb)
    clear hb
    refine hK.out _ _ HO1.out (fun _ => ?_)
    (try simp only [Act.put, List.setIfInBounds_toArray, List.set_cons_zero, List.set_cons_succ])
    clear hK K
    refine runT rfl (fun K hK => ?_)
    go_simp
    go_at_call 36
    refine (new_nat W.heap.size (2 * N + 2 * T) _ _ HH.out.size (by omega) (.inl (by omega))).mono ?_
    rintro r w3 ⟨p, c, rfl, hM, hb, hp, hc⟩
    (try go_wp2_with fail)
    replace HB1 := Lib.hid (below_step HB1.out hb)
    replace HO1 := Lib.hid (HO1.out.later hb)
    replace HH := Lib.hid (HH.out.more hb (tMem_ok _ _ _ _ _ _) hM (fun q hq => by
      rcases hq with rfl | rfl | hq
      · exact hp
      · exact hc
      · cases hq))
    clear hb hM hp hc
    refine hK.out _ _ HO1.out (fun _ => ?_)
    (try simp only [Act.put, List.setIfInBounds_toArray, List.set_cons_zero, List.set_cons_succ])
    clear hK K
    repeat (refine seqT_take (v := ?_) rfl ?_ ?_ ?_; rotate_left 1; rfl; (focus (intro wS hSw; go_simp; first | done | with_reducible rfl)); (try simp only [Act.put, List.setIfInBounds_toArray, List.set_cons_zero, List.set_cons_succ]))
    refine runT rfl (fun K hK => ?_)
    go_simp
    have hb := below_new (Below.refl w3.heap.size w3) (.cells #[i64 T, i64 s, i64 so, i64 d, pt p, .slice (some ⟨w1.drew.heap.size, 0, none⟩) T T, .slice none 0 0, i64 0, i64 0] 87)
    have hE := HH.out.more (A := tObj W.heap.size w3.heap.size [i64 T, i64 s, i64 so, i64 d, pt p, .slice (some ⟨w1.drew.heap.size, 0, none⟩) T T, .slice none 0 0, i64 0, i64 0]) hb (tObj_ok _ _ _) ⟨IsObj.made w3 [i64 T, i64 s, i64 so, i64 d, pt p, .slice (some ⟨w1.drew.heap.size, 0, none⟩) T T, .slice none 0 0, i64 0, i64 0] 87, HH.out.size⟩ (fun q hq => by cases hq; exact Nat.le_refl _)
    have HE := Lib.hid hE
    have HS := Lib.hid HB1.out.size
    replace HB1 := Lib.hid (below_step HB1.out hb)
    replace HO1 := Lib.hid (HO1.out.later hb)
    clear hb hE HH
    refine hK.out _ _ HO1.out (fun _ => ?_)
    (try simp only [Act.put, List.setIfInBounds_toArray, List.set_cons_zero, List.set_cons_succ])
    clear hK K
    repeat (refine seqT_take (v := ?_) rfl ?_ ?_ ?_; rotate_left 1; rfl; (focus (intro wS hSw; go_simp; first | done | with_reducible rfl)); (try simp only [Act.put, List.setIfInBounds_toArray, List.set_cons_zero, List.set_cons_succ]))
    refine seqT_done ?_
    go_wp2
    go_ret2
    exact new_yard HB1.out HS.out (HE.out.rot)

end

end Go.Proofs.YtpfjommkjkbonaaGreat
