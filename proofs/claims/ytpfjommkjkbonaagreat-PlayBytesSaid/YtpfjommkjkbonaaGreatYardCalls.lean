/-
  Contracts of package yard: what each call answers, and what the yard is then. No condition but that numbers fit their kinds.
-/
import Derived.Test.YtpfjommkjkbonaaGreatYardHold
namespace Go.Proofs.YtpfjommkjkbonaaGreat
open Go.RowKit
set_option linter.unusedVariables false

/-- A yard's own cells. -/
structure AtY (w : World) (B : YB) (vd : Value) (moves : Nat) (now : Int) : Prop where
  c0 : w.cell? ⟨B.yb, 0, none⟩ = some (i64 B.t)
  c1 : w.cell? ⟨B.yb, 1, none⟩ = some (i64 B.s)
  c2 : w.cell? ⟨B.yb, 2, none⟩ = some (i64 B.so)
  c3 : w.cell? ⟨B.yb, 3, none⟩ = some (i64 B.d)
  c4 : w.cell? ⟨B.yb, 4, none⟩ = some (pt B.p)
  c5 : w.cell? ⟨B.yb, 5, none⟩ = some (.slice (some ⟨B.tb, 0, none⟩) B.T B.T)
  c6 : w.cell? ⟨B.yb, 6, none⟩ = some vd
  c7 : w.cell? ⟨B.yb, 7, none⟩ = some (i64 moves)
  c8 : w.cell? ⟨B.yb, 8, none⟩ = some (i64 now)
theorem AtY.of {w : World} {B : YB} {vd : Value} {Y : Yd} (h : IsObj w B.yb (B.list vd Y)) : AtY w B vd Y.moves Y.now :=
  ⟨h.at' 0 _ rfl, h.at' 1 _ rfl, h.at' 2 _ rfl, h.at' 3 _ rfl, h.at' 4 _ rfl, h.at' 5 _ rfl, h.at' 6 _ rfl, h.at' 7 _ rfl, h.at' 8 _ rfl⟩

section
variable {W w w' : World} {l : List Thing} {B : YB} {Y : Yd} {J : Nat → Nat} {v vd : Value} {X : List Value}
theorem YAt.cells (h : YAt W w l B Y J v vd X) : AtY w B vd Y.moves Y.now := AtY.of h.objAt

set_option maxHeartbeats 1000000 in
theorem thread_in (h : YAt W w l B Y J v vd X) (k : Nat) (hk : k < B.T) :
    Calls Tryz.prog 56 #[pt B.yb, i64 k] w fun r w' => r = .returned (.pointer (some ⟨B.tb, k * 2, none⟩)) ∧ w = w' := by
  have c5 := h.cells.c5
  have hk' : (k : Int) < (B.T : Int) := by omega
  clear h
  go_enter Tryz.func56, Tryz.ntmps56
  go_wp2
  go_ret
  exact ⟨rfl, rfl⟩

set_option maxHeartbeats 1000000 in
theorem thread_out (h : YAt W w l B Y J v vd X) (k : Int) (hk : k < 0 ∨ B.t ≤ k) :
    Calls Tryz.prog 56 #[pt B.yb, i64 k] w fun r w' => r = .returned (.pointer none) ∧ w = w' := by
  have c5 := h.cells.c5
  have hT := h.hT
  rw [← hT] at hk
  clear h hT
  rcases hk with hk | hk
  all_goals
    go_enter Tryz.func56, Tryz.ntmps56
    go_wp2
    go_ret
    exact ⟨rfl, rfl⟩

set_option maxHeartbeats 1000000 in
theorem busy_in (h : YAt W w l B Y J v vd X) (k : Nat) (hk : k < B.T) (q : Option (Wk × Nat)) (hq : Y.ts[k]? = some q) :
    Calls Tryz.prog 35 #[pt B.yb, i64 k] w fun r w' => r = .returned (.bool q.isSome) ∧ w = w' := by
  have HT := Lib.hid (thread_in h k hk)
  cases q with
  | none =>
    have hx := h.rowAt.at' _ _ (h.idle k hq)
    clear h
    go_enter Tryz.func35, Tryz.ntmps35
    go_wp2_with fail
    refine HT.out.mono ?_
    rintro r w' ⟨rfl, rfl⟩
    go_wp2
    go_ret
    exact ⟨rfl, rfl⟩
  | some a =>
    obtain ⟨y, a1, _⟩ := h.busy k a.1 a.2 hq
    have hx := h.rowAt.at' _ _ a1
    clear h a1
    go_enter Tryz.func35, Tryz.ntmps35
    go_wp2_with fail
    refine HT.out.mono ?_
    rintro r w' ⟨rfl, rfl⟩
    go_wp2
    go_ret
    exact ⟨rfl, rfl⟩
set_option maxHeartbeats 1000000 in
theorem busy_out (h : YAt W w l B Y J v vd X) (k : Int) (hk : k < 0 ∨ B.t ≤ k) :
    Calls Tryz.prog 35 #[pt B.yb, i64 k] w fun r w' => r = .returned (.bool false) ∧ w = w' := by
  have HT := Lib.hid (thread_out h k hk)
  clear h
  go_enter Tryz.func35, Tryz.ntmps35
  go_wp2_with fail
  refine HT.out.mono ?_
  rintro r w' ⟨rfl, rfl⟩
  go_wp2
  go_ret
  exact ⟨rfl, rfl⟩

set_option maxHeartbeats 1000000 in
theorem ypass_rest (h : YAt W w l B Y J v vd X) (n : Int) (hn : n ≤ 0) :
    Calls Tryz.prog 40 #[pt B.yb, i64 n] w fun r w' => r = .returned (.tuple #[]) ∧ w = w' := by
  clear h
  go_enter Tryz.func40, Tryz.ntmps40
  go_wp2
  exact bodyPost_ret (v := .tuple #[]) (by simp [results, Tryz.results40, go_sem]) rfl ⟨rfl, rfl⟩
set_option maxHeartbeats 1000000 in
theorem ypass_any (h : YAt W w l B Y J v vd X) (n : Int) (hn : 0 < n) (n0 : 0 ≤ Y.now) (n1 : Y.now ≤ yMax) :
    Calls Tryz.prog 40 #[pt B.yb, i64 n] w fun r w' => r = .returned (.tuple #[]) ∧ ∃ l', YAt W w' l' B (Y.pass n) J v vd X ∧ l'.length = l.length ∧ ∀ j A, 4 ≤ j → l[j]? = some A → l'[j]? = some A := by
  have hm : yMax = 1099511627776 := rfl
  have c8 := h.cells.c8
  have f8 := h.objAt.fz 8
  have HF := Lib.hid (fun u => (YAt.later (h.setNow u) (Below.refl _ _).drew))
  have HL := Lib.hid (fun (A : Thing) j (hj : 4 ≤ j) (B' : Thing) (hl : l[j]? = some B') => show (l.set 1 A)[j]? = some B' by rw [List.getElem?_set_ne (by omega)]; exact hl)
  clear h
  have hv : IntKind.i64.wrap (Y.now + min n (IntKind.i64.wrap (1099511627776 - Y.now))) = (Y.pass n).now := by
    have hi : IntKind.i64.wrap (1099511627776 - Y.now) = 1099511627776 - Y.now := IntWalk.i64_in _ (by omega)
    show _ = if n > yMax - Y.now then yMax else Y.now + n
    rw [hi, hm]
    split
    · rw [show min n (1099511627776 - Y.now) = 1099511627776 - Y.now by omega, IntWalk.i64_in _ (by omega)]
      omega
    · rw [show min n (1099511627776 - Y.now) = n by omega, IntWalk.i64_in _ (by omega)]
  have HV := Lib.hid hv
  clear hv hm
  go_enter Tryz.func40, Tryz.ntmps40
  go_wp2_with fail
  go_region_law (fail)
  all_goals
    go_wp2
    go_end0
    rw [HV.out]
    exact ⟨rfl, _, HF.out _, List.length_set, fun j A hj hA => HL.out _ j hj A hA⟩

/-- Moves are counted. -/
theorem ymoves (h : YAt W w l B Y J v vd X) : ∃ l', YAt W (w.setCell ⟨B.yb, 7, none⟩ (.int .i64 ((Y.moves : Int) + 1))) l' B { Y with moves := Y.moves + 1 } J v vd X ∧ l'.length = l.length ∧ ∀ j A, 4 ≤ j → l[j]? = some A → l'[j]? = some A :=
  ⟨_, h.setMoves (Y.moves + 1), List.length_set, fun j A hj hA => by rw [List.getElem?_set_ne (by omega)]; exact hA⟩

/-- What stays: all but the first four things, but the one in place e. -/
def YStay (l l' : List Thing) (e : Nat) : Prop := l.length ≤ l'.length ∧ ∀ j A, 4 ≤ j → j ≠ e → l[j]? = some A → l'[j]? = some A
theorem YStay.same {l l' l2 : List Thing} {e : Nat} (h : YStay l l' e) (hl : l2.length = l'.length) (hk : ∀ j A, 4 ≤ j → l'[j]? = some A → l2[j]? = some A) : YStay l l2 e :=
  ⟨by rw [hl]; exact h.1, fun j A hj he hA => hk j A hj (h.2 j A hj he hA)⟩

/-- The two cells of a thread. -/
structure AtTh (w : World) (B : YB) (k b i : Nat) : Prop where
  d0 : w.cell? ⟨B.tb, k * 2, none⟩ = some (pt b)
  d1 : w.cell? ⟨B.tb, k * 2 + 1, none⟩ = some (i64 i)

theorem step_going {P : Pl} {k i : Nat} {T : Wk} {z : Int} (n1 : Y.now ≤ yMax) (hp : (T.step P Y.C Y.now z).ph = 0) :
    Y.step P k T i z = Yd.pass { C := T.cells P Y.C Y.now, L := Y.L ++ T.ev P Y.C Y.now, now := Y.now, moves := Y.moves + 1, ts := Y.ts.set k (some (T.step P Y.C Y.now z, i)), ds := Y.ds } 1 := by
  unfold Yd.step Yd.pass Yd.tick
  rw [if_pos hp, if_pos hp]
  have : (if Y.now < yMax then Y.now + 1 else yMax) = if (1 : Int) > yMax - Y.now then yMax else Y.now + 1 := by split <;> split <;> omega
  rw [this]
theorem step_over {P : Pl} {k i : Nat} {T : Wk} {z : Int} {dd : Dd} (n1 : Y.now ≤ yMax) (hp : (T.step P Y.C Y.now z).ph ≠ 0) (hd : Y.ds[i]? = some dd) :
    Y.step P k T i z = Yd.pass { C := T.cells P Y.C Y.now, L := Y.L ++ T.ev P Y.C Y.now, now := Y.now, moves := Y.moves + 1, ts := Y.ts.set k none, ds := Y.ds.set i (dd.over Y.moves (T.step P Y.C Y.now z)) } 1 := by
  unfold Yd.step Yd.pass Yd.tick
  rw [if_neg hp, if_neg hp, modify_set hd]
  have : (if Y.now < yMax then Y.now + 1 else yMax) = if (1 : Int) > yMax - Y.now then yMax else Y.now + 1 := by split <;> split <;> omega
  rw [this]
theorem Dd.over_form (d : Dd) (m : Nat) (T : Wk) : d.over m T = { d with till := (d.over m T).till, ok := (d.over m T).ok, v := (d.over m T).v, lo := (d.over m T).lo, hi := (d.over m T).hi } ∧ (d.over m T).till = m := by
  unfold Dd.over
  split <;> exact ⟨rfl, rfl⟩
theorem own_at {w : World} {base : Nat} {e : TypeId} {sz n : Nat} {v : Value} {xs : List Value} (h : w.ownsRow base e sz v n xs) (hn : 0 < n) : ∃ g cap, v = .slice (some ⟨g, 0, none⟩) n cap := by
  rcases h.2 with ⟨_, h0⟩ | ⟨g, cap, cur, rfl, _⟩
  · omega
  · exact ⟨g, cap, rfl⟩

set_option maxHeartbeats 4000000 in
theorem ystep_any {pl : Nat → Pl} {n t k i : Nat} {T : Wk} (h : YAt W w l B Y J v vd X) (ho : YOk pl t n Y) (hn : n < 1000000) (hw : Y.ts[k]? = some (some (T, i))) :
    Calls Tryz.prog 39 #[pt B.yb, i64 k] w fun r w' => r = .returned (.bool true) ∧ ∃ z, T.ask Y.C z ∧ ∃ l', YH W w' l' B (Y.step (pl k) k T i z) J ∧ YStay l l' (J k) := by
  obtain ⟨o1, o2, o3, o4, dd, o5, o6⟩ := ho.task k T i hw
  have n0 := ho.now0
  have n1 := ho.now1
  have hmv := ho.most
  have hds := ho.nds
  have hL := ho.nL
  have hk : k < B.T := by have := (List.getElem?_eq_some_iff.1 hw).1; have := h.tl; omega
  obtain ⟨y, a1, a2, a3, a4, a5⟩ := h.busy k T i hw
  have hB := busy_in h k hk _ hw
  have HB := Lib.hid hB
  have HTh := Lib.hid (thread_in h k hk)
  have HFit := Lib.hid (YH.fit ⟨v, vd, X, h⟩)
  have hilt : i < Y.ds.length := (List.getElem?_eq_some_iff.1 o5).1
  obtain ⟨g, cap, rfl⟩ := own_at h.own (by omega)
  have HY := Lib.hid (YAt.later h (Below.refl _ _).drew)
  have HA1 := Lib.hid a1
  have HA2 := Lib.hid a2
  have HA4 := Lib.hid a4
  have HO1 := Lib.hid o1
  have HO2 := Lib.hid o2
  have HO5 := Lib.hid o5
  have HO6 := Lib.hid o6
  have HW := Lib.hid hw
  clear hB h a1 a2 a4 o1 ho o2 o3 o4 o5 o6 hw
  subst a5
  go_enter Tryz.func39, Tryz.ntmps39
  go_wp2_with fail
  refine HB.out.mono ?_
  rintro r w' ⟨rfl, rfl⟩
  simp only [Option.isSome_some]
  clear HB
  go_wp2_with fail
  refine HTh.out.mono ?_
  rintro r w' ⟨rfl, rfl⟩
  clear HTh
  go_wp2_with fail
  refine wp_region_seqS ((fun w' => AtY w' B (.slice (some ⟨g, 0, none⟩) Y.ds.length cap) Y.moves Y.now ∧ AtTh w' B k y.b i)) ((0, true) :: (1, true) :: (2, true) :: (3, true) :: (4, true) :: (5, true) :: (6, true) :: (7, true) :: (8, true) :: (9, true) :: (10, true) :: (11, true) :: (12, false) :: []) (by kernel_rfl) (by kernel_rfl) (by kernel_rfl) (by decide) (fun _ _ _ _ _ h => h) (⟨HY.out.cells, HY.out.rowAt.at' _ _ HA1.out, HY.out.rowAt.at' _ _ HA2.out⟩) ?_
  repeat (first | (refine seq_take (v := ?_) rfl ?_ ?_ ?_; rotate_left 1; rfl; (focus (intro wS hSw; obtain ⟨⟨c0, c1, c2, c3, c4, c5, c6, c7, c8⟩, ⟨d0, d1⟩⟩ := hSw; go_simp; first | done | with_reducible rfl)); (try simp only [Act.put, List.setIfInBounds_toArray, List.set_cons_zero, List.set_cons_succ])) | (refine seq_skip rfl ?_ ?_; rfl; (try simp only [Act.put, List.setIfInBounds_toArray, List.set_cons_zero, List.set_cons_succ])))
  refine seq_run rfl (fun K hK => ?_)
  go_simp
  go_at_call 60
  refine (HY.out.hold.tstep 0 (J k) (by omega) HY.out.mem HA4.out HO1.out n0 (by omega)).mono ?_
  rintro r w1 ⟨z, hz, rfl, v1, B1, hH1⟩
  (try go_wp2_with fail)
  have HY1 := Lib.hid (HY.out.gone (y' := ⟨y.b, B1, y.kd, y.e, y.x, y.s, y.T.step (pl k) Y.C Y.now z⟩) HW.out HA4.out rfl rfl HA1.out hH1)
  have HOk := Lib.hid (HO1.out.next HO2.out hn hz n0 HFit.out).1
  have HST : Hid (YStay l ((l.set 0 (tMem W.heap.size B.p B.c v1 (y.T.cells (pl k) Y.C Y.now) (Y.L ++ y.T.ev (pl k) Y.C Y.now))).set (J k) (wT W.heap.size ⟨y.b, B1, y.kd, y.e, y.x, y.s, y.T.step (pl k) Y.C Y.now z⟩)) (J k)) :=
    ⟨by rw [List.length_set, List.length_set]; exact Nat.le_refl _, fun j A hj he hA => by rw [List.getElem?_set_ne (fun h => he h.symm), List.getElem?_set_ne (by omega)]; exact hA⟩
  have HJ : Hid (((l.set 0 (tMem W.heap.size B.p B.c v1 (y.T.cells (pl k) Y.C Y.now) (Y.L ++ y.T.ev (pl k) Y.C Y.now))).set (J k) (wT W.heap.size ⟨y.b, B1, y.kd, y.e, y.x, y.s, y.T.step (pl k) Y.C Y.now z⟩))[J k]? = some (wT W.heap.size ⟨y.b, B1, y.kd, y.e, y.x, y.s, y.T.step (pl k) Y.C Y.now z⟩)) :=
    List.getElem?_set_self (by rw [List.length_set]; exact (List.getElem?_eq_some_iff.1 HA4.out).1)
  clear hH1 HY HO1 HO2 HFit HW HA4
  generalize ((l.set 0 (tMem W.heap.size B.p B.c v1 (y.T.cells (pl k) Y.C Y.now) (Y.L ++ y.T.ev (pl k) Y.C Y.now))).set (J k) (wT W.heap.size ⟨y.b, B1, y.kd, y.e, y.x, y.s, y.T.step (pl k) Y.C Y.now z⟩)) = l1 at HY1 HST HJ
  refine hK.out _ _ (⟨HY1.out.cells, HY1.out.rowAt.at' _ _ HA1.out, HY1.out.rowAt.at' _ _ HA2.out⟩) (fun _ => ?_)
  (try simp only [Act.put, List.setIfInBounds_toArray, List.set_cons_zero, List.set_cons_succ])
  clear hK K
  refine seq_done ?_
  by_cases hp : (y.T.step (pl k) Y.C Y.now z).ph = 0
  · have e : ((y.T.step (pl k) Y.C Y.now z).ph != 0) = false := by simp [hp]
    rw [e]
    obtain ⟨c0, c1, c2, c3, c4, c5, c6, c7, c8⟩ := HY1.out.cells
    have f7 := HY1.out.objAt.fz 7
    have HP := Lib.hid hp
    obtain ⟨l2, hM, hMl, hMk⟩ := ymoves HY1.out
    have HM := Lib.hid hM
    have HMk := Lib.hid hMk
    clear e hp hM hMk
    go_wp2_with fail
    refine (ypass_any HM.out 1 (by decide) n0 n1).mono ?_
    rintro r w2 ⟨rfl, l3, hQ, hQl, hQk⟩
    have HQ := Lib.hid hQ
    have HQk := Lib.hid hQk
    clear hQ hQk c0 c1 c2 c3 c4 c5 c6 c7 c8 f7 HM
    go_wp2
    go_ret
    exact ⟨rfl, z, hz, l3, ⟨_, _, _, by rw [step_going n1 HP.out]; exact HQ.out⟩, (HST.out.same hMl HMk.out).same hQl HQk.out⟩
  · have e : ((y.T.step (pl k) Y.C Y.now z).ph != 0) = true := by simp [hp]
    rw [e]
    have HP := Lib.hid hp
    have hilt' : (i : Int) < (Y.ds.length : Int) := by omega
    have HY2 := Lib.hid (YAt.later HY1.out (Below.refl _ _).drew)
    clear e hp
    go_wp2_with fail
    refine wp_region_seqS ((fun w' => AtY w' B (.slice (some ⟨g, 0, none⟩) Y.ds.length cap) Y.moves Y.now ∧ AtTh w' B k y.b i)) ((0, true) :: (1, true) :: (2, true) :: (3, true) :: (4, true) :: (5, true) :: (6, true) :: (7, true) :: (8, true) :: (9, true) :: []) (by kernel_rfl) (by kernel_rfl) (by kernel_rfl) (by decide) (fun _ _ _ _ _ h => h) (⟨HY2.out.cells, HY2.out.rowAt.at' _ _ HA1.out, HY2.out.rowAt.at' _ _ HA2.out⟩) ?_
    repeat (first | (refine seq_take (v := ?_) rfl ?_ ?_ ?_; rotate_left 1; rfl; (focus (intro wS hSw; obtain ⟨⟨c0, c1, c2, c3, c4, c5, c6, c7, c8⟩, ⟨d0, d1⟩⟩ := hSw; go_simp; first | done | with_reducible rfl)); (try simp only [Act.put, List.setIfInBounds_toArray, List.set_cons_zero, List.set_cons_succ])) | (refine seq_skip rfl ?_ ?_; rfl; (try simp only [Act.put, List.setIfInBounds_toArray, List.set_cons_zero, List.set_cons_succ])))
    refine seq_done ?_
    replace HY2 := Lib.hid (YAt.later HY2.out (Below.refl _ _).drew)
    go_wp2_with fail
    refine wp_region_seqS ((fun w' => AtY w' B (.slice (some ⟨g, 0, none⟩) Y.ds.length cap) Y.moves Y.now ∧ AtTh w' B k y.b i)) ((0, true) :: (1, true) :: (2, true) :: (3, true) :: (4, true) :: (5, true) :: (6, true) :: (7, true) :: (8, true) :: (9, true) :: (10, false) :: (11, true) :: (12, true) :: (13, false) :: (14, true) :: (15, true) :: (16, false) :: []) (by kernel_rfl) (by kernel_rfl) (by kernel_rfl) (by decide) (fun _ _ _ _ _ h => h) (⟨HY2.out.cells, HY2.out.rowAt.at' _ _ HA1.out, HY2.out.rowAt.at' _ _ HA2.out⟩) ?_
    repeat (first | (refine seq_take (v := ?_) rfl ?_ ?_ ?_; rotate_left 1; rfl; (focus (intro wS hSw; obtain ⟨⟨c0, c1, c2, c3, c4, c5, c6, c7, c8⟩, ⟨d0, d1⟩⟩ := hSw; go_simp; first | done | with_reducible rfl)); (try simp only [Act.put, List.setIfInBounds_toArray, List.set_cons_zero, List.set_cons_succ])) | (refine seq_skip rfl ?_ ?_; rfl; (try simp only [Act.put, List.setIfInBounds_toArray, List.set_cons_zero, List.set_cons_succ])))
    refine seq_run rfl (fun K hK => ?_)
    go_simp
    go_at_call 61
    refine ((HY2.out.hold.task 0 (J k) (by omega) HY2.out.mem HJ.out).reply HOk.out).mono ?_
    rintro r w2 ⟨rfl, hb⟩
    (try go_wp2_with fail)
    replace HY2 := Lib.hid (YAt.later HY2.out hb)
    clear hb
    rw [Dd.over_reply dd Y.moves (y.T.step (pl k) Y.C Y.now z) HO6.out.2.2]
    have HDS := Lib.hid (Dd.over_form dd Y.moves (y.T.step (pl k) Y.C Y.now z))
    have HSO := Lib.hid (step_over (P := pl k) (k := k) n1 HP.out HO5.out)
    generalize dd.over Y.moves (y.T.step (pl k) Y.C Y.now z) = dd' at HDS HSO ⊢
    have hgy : g ≠ B.yb := fun e => HY2.out.dne.1 (e ▸ rfl)
    have hgt : g ≠ B.tb := fun e => HY2.out.dne.2 (e ▸ rfl)
    have hcell : ∀ j u, j < 11 → dd.list[j]? = some u → w2.cell? ⟨g, i * 11 + j, none⟩ = some u := fun j u hj hu => (HY2.out.own.cellAt _ (by show i * 11 + j < Y.ds.length * 11; omega)).trans ((flatD_at HO5.out hj).trans hu)
    have hfz := fun j => HY2.out.own.frozenAt j
    have e6 := hcell 6 _ (by decide) rfl
    have e7 := hcell 7 _ (by decide) rfl
    have e8 := hcell 8 _ (by decide) rfl
    have e9 := hcell 9 _ (by decide) rfl
    have e10 := hcell 10 _ (by decide) rfl
    have f6 := hfz (i * 11 + 6)
    have f7 := hfz (i * 11 + 7)
    have f8 := hfz (i * 11 + 8)
    have f9 := hfz (i * 11 + 9)
    have f10 := hfz (i * 11 + 10)
    clear hcell hfz
    have HYB := Lib.hid HY2.out.objAt
    have HTB := Lib.hid HY2.out.rowAt
    refine hK.out _ _ (⟨HY2.out.cells, HY2.out.rowAt.at' _ _ HA1.out, HY2.out.rowAt.at' _ _ HA2.out⟩) (fun _ => ?_)
    (try simp only [Act.put, List.setIfInBounds_toArray, List.set_cons_zero, List.set_cons_succ])
    clear hK K
    repeat (first | (refine seq_take (v := ?_) rfl ?_ ?_ ?_; rotate_left 1; rfl; (focus (intro wS hSw; obtain ⟨⟨c0, c1, c2, c3, c4, c5, c6, c7, c8⟩, ⟨d0, d1⟩⟩ := hSw; go_simp; first | done | with_reducible rfl)); (try simp only [Act.put, List.setIfInBounds_toArray, List.set_cons_zero, List.set_cons_succ])) | (refine seq_skip rfl ?_ ?_; rfl; (try simp only [Act.put, List.setIfInBounds_toArray, List.set_cons_zero, List.set_cons_succ])))
    refine seq_run rfl (fun K hK => ?_)
    go_simp
    have HYB1 := Lib.hid (HYB.out.other (i * 11 + 6) (i64 Y.moves) hgy)
    have HTB1 := Lib.hid (HTB.out.other (i * 11 + 6) (i64 Y.moves) hgt)
    refine hK.out _ _ (⟨AtY.of HYB1.out, HTB1.out.at' _ _ HA1.out, HTB1.out.at' _ _ HA2.out⟩) (fun _ => ?_)
    (try simp only [Act.put, List.setIfInBounds_toArray, List.set_cons_zero, List.set_cons_succ])
    clear hK K
    repeat (first | (refine seq_take (v := ?_) rfl ?_ ?_ ?_; rotate_left 1; rfl; (focus (intro wS hSw; obtain ⟨⟨c0, c1, c2, c3, c4, c5, c6, c7, c8⟩, ⟨d0, d1⟩⟩ := hSw; go_simp; first | done | with_reducible rfl)); (try simp only [Act.put, List.setIfInBounds_toArray, List.set_cons_zero, List.set_cons_succ])) | (refine seq_skip rfl ?_ ?_; rfl; (try simp only [Act.put, List.setIfInBounds_toArray, List.set_cons_zero, List.set_cons_succ])))
    refine seq_run rfl (fun K hK => ?_)
    go_simp
    have HYB2 := Lib.hid ((((HYB1.out.other (i * 11 + 7) (.bool dd'.ok) hgy).other (i * 11 + 8) (u64 dd'.v) hgy).other (i * 11 + 9) (i64 dd'.lo) hgy).other (i * 11 + 10) (i64 dd'.hi) hgy)
    have HTB2 := Lib.hid ((((HTB1.out.other (i * 11 + 7) (.bool dd'.ok) hgt).other (i * 11 + 8) (u64 dd'.v) hgt).other (i * 11 + 9) (i64 dd'.lo) hgt).other (i * 11 + 10) (i64 dd'.hi) hgt)
    refine hK.out _ _ (⟨AtY.of HYB2.out, HTB2.out.at' _ _ HA1.out, HTB2.out.at' _ _ HA2.out⟩) (fun _ => ?_)
    (try simp only [Act.put, List.setIfInBounds_toArray, List.set_cons_zero, List.set_cons_succ])
    clear hK K
    refine seq_done ?_
    obtain ⟨l2, hD, hDl, hDk⟩ := HY2.out.setDeed (dd' := dd') rfl HO5.out HDS.out.1
    rw [HDS.out.2] at hD
    have HD := Lib.hid hD
    have HDk := Lib.hid hDk
    clear hD hDk HYB HTB HYB1 HTB1 HYB2 HTB2 e6 e7 e8 e9 e10 f6 f7 f8 f9 f10 HY1 HY2
    obtain ⟨c0, c1, c2, c3, c4, c5, c6, c7, c8⟩ := HD.out.cells
    have f7 := HD.out.objAt.fz 7
    have d0 := HD.out.rowAt.at' _ _ HA1.out
    have g0 := HD.out.rowAt.fz (k * 2)
    have hty := HD.out.ne
    obtain ⟨l3, hM, hMl, hMk⟩ := ymoves (HD.out.end hk)
    have HM := Lib.hid hM
    have HMk := Lib.hid hMk
    clear hM hMk
    go_wp2_with fail
    refine (ypass_any HM.out 1 (by decide) n0 n1).mono ?_
    rintro r w3 ⟨rfl, l4, hQ, hQl, hQk⟩
    have HQ := Lib.hid hQ
    have HQk := Lib.hid hQk
    clear hQ hQk c0 c1 c2 c3 c4 c5 c6 c7 c8 f7 d0 g0 HM HD
    go_wp2
    go_ret
    refine ⟨rfl, z, hz, l4, ⟨_, _, _, by have hq := HQ.out; rw [List.set_set] at hq; rw [HSO.out]; exact hq⟩, ((HST.out.same hDl HDk.out).same (hMl.trans (by rw [List.length_set])) (fun j A hj hA => HMk.out j A hj ?_)).same hQl HQk.out⟩
    rw [List.getElem?_set_ne (by omega)]
    exact hA

/-- A layout by value. -/
structure YCf (B : YB) (N : Nat) : Prop where
  lay : Lay B.t B.s N
  o0 : 0 ≤ B.so
  o1 : B.so ≤ 4
  d0 : 0 ≤ B.d
  d1 : B.d ≤ 100
/-- A thread's numbers. -/
def plOf (B : YB) (N : Nat) (k : Nat) : Pl := ⟨N, (k : Int) * B.s, 2 * N + B.T, 2 * N, 2 * N + k⟩
theorem YCf.own {B : YB} {N k : Nat} (h : YCf B N) (hT : (B.T : Int) = B.t) (hk : k < B.T) : 0 ≤ (k : Int) * B.s ∧ (k : Int) * B.s + B.s ≤ N := by
  have s1 := h.lay.s1
  have e := h.lay.eq
  have h1 : 0 ≤ (k : Int) * B.s := Int.mul_nonneg (by omega) (by omega)
  have h2 : ((k : Int) + 1) * B.s ≤ B.t * B.s := Int.mul_le_mul_of_nonneg_right (by omega) (by omega)
  rw [Int.add_mul, Int.one_mul] at h2
  omega
/-- What a thread has when its call is begun. -/
abbrev wkB (B : YB) (N k : Nat) (take : Bool) (e x s : Int) : Wk := wk0 B.t B.s B.so B.d k take e x s ((k : Int) * B.s) N

set_option maxHeartbeats 1000000 in
theorem ycall_out (h : YAt W w l B Y J v vd X) (k : Int) (hk : k < 0 ∨ B.t ≤ k) (kd e x s : Int) :
    Calls Tryz.prog 38 #[pt B.yb, i64 k, callV kd e x s] w fun r w' => r = .returned (i64 1) ∧ Below w.heap.size w w' := by
  have hB0 := below_new (Below.refl w.heap.size w) (.cells #[i64 kd, i64 e, u64 x, i64 s] 37)
  have HT := Lib.hid (thread_out (h.later hB0) k hk)
  have HB0 := Lib.hid hB0
  clear h hB0
  go_enter Tryz.func38, Tryz.ntmps38
  go_wp2_with fail
  refine HT.out.mono ?_
  rintro r w' ⟨rfl, rfl⟩
  go_wp2
  go_ret
  exact ⟨rfl, HB0.out⟩

set_option maxHeartbeats 1000000 in
theorem ycall_wrong (h : YAt W w l B Y J v vd X) (k : Nat) (hk : k < B.T) (kd e x s : Int) (hc : ¬ ((kd = 0 ∨ kd = 1) ∧ (e = 0 ∨ e = 1))) :
    Calls Tryz.prog 38 #[pt B.yb, i64 k, callV kd e x s] w fun r w' => r = .returned (i64 1) ∧ Below w.heap.size w w' := by
  have hB0 := below_new (Below.refl w.heap.size w) (.cells #[i64 kd, i64 e, u64 x, i64 s] 37)
  have HT := Lib.hid (thread_in (h.later hB0) k hk)
  have HB0 := Lib.hid hB0
  have HR := fun w => callright_any kd e x s w
  rw [decide_eq_false hc] at HR
  replace HR := Lib.hid HR
  clear h hB0
  go_enter Tryz.func38, Tryz.ntmps38
  go_wp2_with fail
  refine HT.out.mono ?_
  rintro r w' ⟨rfl, rfl⟩
  go_wp2_with fail
  refine (HR.out _).mono ?_
  rintro r w' ⟨rfl, hb⟩
  have HB1 := Lib.hid (below_step HB0.out hb)
  clear hb
  go_wp2
  go_ret
  exact ⟨rfl, HB1.out⟩

set_option maxHeartbeats 1000000 in
theorem ycall_busy (h : YAt W w l B Y J v vd X) (k : Nat) (q : Wk × Nat) (hq : Y.ts[k]? = some (some q)) (kd e x s : Int) (hc : (kd = 0 ∨ kd = 1) ∧ (e = 0 ∨ e = 1)) :
    Calls Tryz.prog 38 #[pt B.yb, i64 k, callV kd e x s] w fun r w' => r = .returned (i64 2) ∧ Below w.heap.size w w' := by
  have hk : k < B.T := by have := (List.getElem?_eq_some_iff.1 hq).1; have := h.tl; omega
  have hB0 := below_new (Below.refl w.heap.size w) (.cells #[i64 kd, i64 e, u64 x, i64 s] 37)
  have HT := Lib.hid (thread_in (h.later hB0) k hk)
  have HB0 := Lib.hid hB0
  have HR := fun w => callright_yes kd e x s w hc.1 hc.2
  replace HR := Lib.hid HR
  obtain ⟨y, a1, _⟩ := h.busy k q.1 q.2 hq
  have HX := Lib.hid ((h.later hB0).rowAt)
  have HA1 := Lib.hid a1
  clear h hB0 hq hc a1
  go_enter Tryz.func38, Tryz.ntmps38
  go_wp2_with fail
  refine HT.out.mono ?_
  rintro r w' ⟨rfl, rfl⟩
  go_wp2_with fail
  refine (HR.out _).mono ?_
  rintro r w' ⟨rfl, hb⟩
  have HB1 := Lib.hid (below_step HB0.out hb)
  have d0 := (HX.out.later hb).at' _ _ HA1.out
  clear hb
  go_wp2
  go_ret
  exact ⟨rfl, HB1.out⟩

/-- A call that lies in a block of its own. -/
structure AtQ (w : World) (b : Nat) (kd e x s : Int) : Prop where
  q0 : w.cell? ⟨b, 0, none⟩ = some (i64 kd)
  q1 : w.cell? ⟨b, 1, none⟩ = some (i64 e)
  q2 : w.cell? ⟨b, 2, none⟩ = some (u64 x)
  q3 : w.cell? ⟨b, 3, none⟩ = some (i64 s)
theorem AtQ.of {w : World} {b : Nat} {kd e x s : Int} (h : IsObj w b [i64 kd, i64 e, u64 x, i64 s]) : AtQ w b kd e x s := ⟨h.at' 0 _ rfl, h.at' 1 _ rfl, h.at' 2 _ rfl, h.at' 3 _ rfl⟩
theorem src_dd (w W : World) (d : Dd) (h : W.heap = (w.alloc (.cells d.list.toArray 76)).heap) : Src W 11 (some ⟨w.heap.size, 0, none⟩) 1 d.list :=
  have k := src_list w d.list 76 11 1 rfl d.one
  ⟨k.nil, k.len, fun ad had j u hj => (World.cell?_of_block (w := w.alloc _) (by rw [h])).trans (k.at' ad had j u hj), k.one⟩
theorem YAt.grew {W' w1 : World} {v' : Value} {n : Nat} {xs : List Value} (h : YAt W w l B Y J v vd X) (hW : Below w.heap.size w W') (hG : Grew W' w1 W.heap.size 76 11 vd v' n xs) : w1.cell? ⟨B.yb, 6, none⟩ = some vd ∧ w1.frozen? ⟨B.yb, 6, none⟩ = false := by
  have h' := h.later hW
  have hne := h.dne.1
  exact ⟨hG.grown.cell h'.cells.c6 (fun e => hne e.symm), (World.frozen?_of_block (a := ⟨B.yb, 6, none⟩) (hG.grown.block B.yb h'.objAt.lt (fun e => hne e.symm))).trans (h'.objAt.fz 6)⟩

set_option maxHeartbeats 4000000 in
theorem ycall_yes {N k : Nat} (hc : YCf B N) (h : YAt W w l B Y J v vd X) (take : Bool) {kd : Int} (hkd : kdI take = kd) (e x s : Int) (he : e = 0 ∨ e = 1) (hw : Y.ts[k]? = some none) (hds : Y.ds.length ≤ Y.moves) (hm : Y.moves < 1000000) :
    Calls Tryz.prog 38 #[pt B.yb, i64 k, callV kd e x s] w fun r w' => r = .returned (i64 0) ∧ ∃ l' J', YH W w' l' B (Y.call k kd e x s (wkB B N k take e x s)) J' ∧ YGo Y (Y.call k kd e x s (wkB B N k take e x s)) l l' J J' := by
  have hk : k < B.T := by have := (List.getElem?_eq_some_iff.1 hw).1; have := h.tl; omega
  obtain ⟨m0, m1⟩ := hc.own h.hT hk
  have hkt : (k : Int) < B.t := by have := h.hT; omega
  have hB0 := below_new (Below.refl w.heap.size w) (.cells #[i64 kd, i64 e, u64 x, i64 s] 37)
  have hO0 := IsObj.made w [i64 kd, i64 e, u64 x, i64 s] 37
  have HT := Lib.hid (thread_in (h.later hB0) k hk)
  have HR := fun w => callright_yes kd e x s w (by cases take; exact .inl hkd.symm; exact .inr hkd.symm) he
  replace HR := Lib.hid HR
  have hidle := h.idle k hw
  have hxl := h.xl
  obtain ⟨xv, hxv⟩ : ∃ xv, X[k * 2 + 1]? = some xv := ⟨_, List.getElem?_eq_getElem (by omega)⟩
  obtain ⟨A, cap, rfl⟩ := own_shape h.own
  have HNE := Lib.hid (show B.tb ≠ w.heap.size from Nat.ne_of_lt h.rowAt.lt)
  have HY := Lib.hid (h.later hB0)
  have HI := Lib.hid hidle
  have HXV := Lib.hid hxv
  have HW := Lib.hid hw
  have HO := Lib.hid hO0
  clear h hB0 hw hidle hO0 hxv hxl
  go_enter Tryz.func38, Tryz.ntmps38
  go_wp2_with fail
  refine HT.out.mono ?_
  rintro r w' ⟨rfl, rfl⟩
  go_wp2_with fail
  refine (HR.out _).mono ?_
  rintro r w1 ⟨rfl, hb⟩
  have HY1 := Lib.hid (YAt.later HY.out hb)
  have HO1 := Lib.hid (HO.out.later hb)
  have d0 := HY1.out.rowAt.at' _ _ HI.out
  clear hb HY HO HT
  go_wp2_with fail
  clear d0
  replace HY1 := Lib.hid (YAt.later HY1.out (Below.refl _ _).drew)
  replace HO1 := Lib.hid (HO1.out.later (Below.refl _ _).drew)
  generalize w.heap.size = cb at HO1 HNE ⊢
  have hne := HNE.out
  refine wp_region_seqS ((fun w' => AtY w' B (.slice A Y.ds.length cap) Y.moves Y.now ∧ AtQ w' cb kd e x s)) ((0, true) :: (1, true) :: (2, true) :: (3, true) :: (4, true) :: (5, true) :: (6, true) :: (8, true) :: (9, true) :: (10, true) :: (11, true) :: (12, true) :: (7, false) :: (13, true) :: (14, true) :: (15, false) :: []) (by kernel_rfl) (by kernel_rfl) (by kernel_rfl) (by decide) (fun _ _ _ _ _ h => h) (⟨HY1.out.cells, AtQ.of HO1.out⟩) ?_
  repeat (first | (refine seq_take (v := ?_) rfl ?_ ?_ ?_; rotate_left 1; rfl; (focus (intro wS hSw; obtain ⟨⟨c0, c1, c2, c3, c4, c5, c6, c7, c8⟩, ⟨q0, q1, q2, q3⟩⟩ := hSw; go_simp; first | done | with_reducible rfl)); (try simp only [Act.put, List.setIfInBounds_toArray, List.set_cons_zero, List.set_cons_succ])) | (refine seq_skip rfl ?_ ?_; rfl; (try simp only [Act.put, List.setIfInBounds_toArray, List.set_cons_zero, List.set_cons_succ])))
  refine seq_run rfl (fun K hK => ?_)
  go_simp
  go_at_call 59
  refine (HY1.out.hold.tnew (x := x) (start := s) take hkd hc.lay (by omega) hkt rfl m0 m1 he).mono ?_
  rintro r w3 ⟨b, B1, rfl, hH3, hb3, hn3⟩
  (try go_wp2_with fail)
  have HH3 := Lib.hid hH3
  have HY3 := Lib.hid (YAt.later HY1.out hb3)
  have HO3 := Lib.hid (HO1.out.later hb3)
  have d0 := HY3.out.rowAt.at' _ _ HI.out
  have d1 := HY3.out.rowAt.at' _ _ HXV.out
  have f0 := HY3.out.rowAt.fz (k * 2)
  have f1 := HY3.out.rowAt.fz (k * 2 + 1)
  clear hH3 hb3
  refine hK.out _ _ (⟨HY3.out.cells, AtQ.of HO3.out⟩) (fun _ => ?_)
  (try simp only [Act.put, List.setIfInBounds_toArray, List.set_cons_zero, List.set_cons_succ])
  clear hK K
  repeat (first | (refine seq_take (v := ?_) rfl ?_ ?_ ?_; rotate_left 1; rfl; (focus (intro wS hSw; obtain ⟨⟨c0, c1, c2, c3, c4, c5, c6, c7, c8⟩, ⟨q0, q1, q2, q3⟩⟩ := hSw; go_simp; first | done | with_reducible rfl)); (try simp only [Act.put, List.setIfInBounds_toArray, List.set_cons_zero, List.set_cons_succ])) | (refine seq_skip rfl ?_ ?_; rfl; (try simp only [Act.put, List.setIfInBounds_toArray, List.set_cons_zero, List.set_cons_succ])))
  refine seq_run rfl (fun K hK => ?_)
  go_simp
  have HYB := Lib.hid ((HY3.out.objAt.other (a := B.tb) (k * 2) (pt b) HY3.out.ne).other (a := B.tb) (k * 2 + 1) (i64 Y.ds.length) HY3.out.ne)
  have HOB := Lib.hid ((HO3.out.other (a := B.tb) (k * 2) (pt b) hne).other (a := B.tb) (k * 2 + 1) (i64 Y.ds.length) hne)
  refine hK.out _ _ (⟨AtY.of HYB.out, AtQ.of HOB.out⟩) (fun _ => ?_)
  (try simp only [Act.put, List.setIfInBounds_toArray, List.set_cons_zero, List.set_cons_succ])
  clear hK K
  refine seq_done ?_
  have HYb : Hid (YAt W ((w3.setCell ⟨B.tb, k * 2, none⟩ (.pointer (some ⟨b, 0, none⟩))).setCell ⟨B.tb, k * 2 + 1, none⟩ (.int .i64 (Y.ds.length : Nat))) _ B { Y with ts := Y.ts.set k (some (wkB B N k take e x s, Y.ds.length)) } (fun j => if j = k then l.length else J j) v (.slice A Y.ds.length cap) _) := Lib.hid (HY1.out.begin (i := Y.ds.length) HW.out HH3.out)
  have HOB' : Hid (IsObj ((w3.setCell ⟨B.tb, k * 2, none⟩ (.pointer (some ⟨b, 0, none⟩))).setCell ⟨B.tb, k * 2 + 1, none⟩ (.int .i64 (Y.ds.length : Nat))) cb [i64 kd, i64 e, u64 x, i64 s]) := HOB
  have HK : Hid (∀ j A', 4 ≤ j → l[j]? = some A' → ((l ++ [wT W.heap.size ⟨b, B1, kd, e, x, s, wkB B N k take e x s⟩]).set 2 (tObj W.heap.size B.tb ((X.set (k * 2) (pt b)).set (k * 2 + 1) (i64 Y.ds.length))))[j]? = some A') := Lib.hid (fun j A' hj hA => by rw [List.getElem?_set_ne (by omega), List.getElem?_append_left (List.getElem?_eq_some_iff.1 hA).1]; exact hA)
  have HLN : Hid (((l ++ [wT W.heap.size ⟨b, B1, kd, e, x, s, wkB B N k take e x s⟩]).set 2 (tObj W.heap.size B.tb ((X.set (k * 2) (pt b)).set (k * 2 + 1) (i64 Y.ds.length)))).length = l.length + 1) := Lib.hid (by rw [List.length_set, List.length_append]; rfl)
  clear d0 d1 f0 f1 HYB HO3 HO1 HH3 HY3 HY1 HOB hne
  rename_i xx1 xx2
  clear xx1 xx2
  generalize ((w3.setCell ⟨B.tb, k * 2, none⟩ (.pointer (some ⟨b, 0, none⟩))).setCell ⟨B.tb, k * 2 + 1, none⟩ (.int .i64 (Y.ds.length : Nat))) = w4 at HYb HOB' ⊢
  generalize ((l ++ [wT W.heap.size ⟨b, B1, kd, e, x, s, wkB B N k take e x s⟩]).set 2 (tObj W.heap.size B.tb ((X.set (k * 2) (pt b)).set (k * 2 + 1) (i64 Y.ds.length)))) = l4 at HYb HK HLN
  generalize ((X.set (k * 2) (pt b)).set (k * 2 + 1) (i64 Y.ds.length)) = X4 at HYb
  obtain ⟨c0, c1, c2, c3, c4, c5, c6, c7, c8⟩ := HYb.out.cells
  obtain ⟨q0, q1, q2, q3⟩ := AtQ.of HOB'.out
  have hlty := HYb.out.objAt.lt
  have hltc := HOB'.out.lt
  clear HOB'
  go_wp2_with fail
  go_region_law (refine step_append_grew rfl _ _ 61 rfl W.heap.size 76 _ 11 88 elem_dd (.slice A Y.ds.length cap) Y.ds.length (flatD Y.ds) rfl ?_ (some ⟨w4.heap.size, 0, none⟩) 1 1 (Dd.list ⟨k, kd, e, x, s, Y.moves, -1, false, 0, 0, 0⟩) rfl ?_ (by unfold maxLen; omega) (by omega) ?_ ?_; (focus exact (HYb.out.later (by first | exact (below_new (Below.refl _ _) _).drew | exact below_new (Below.refl _ _).drew _)).own); (focus exact src_dd w4 _ ⟨k, kd, e, x, s, Y.moves, -1, false, 0, 0, 0⟩ rfl); (focus exact (HYb.out.later (by first | exact (below_new (Below.refl _ _) _).drew | exact below_new (Below.refl _ _).drew _)).hold.size); intro vd' w5 hG; have HG := HYb.out.grew (by first | exact (below_new (Below.refl _ _) _).drew | exact below_new (Below.refl _ _).drew _) hG; obtain ⟨c6', f6'⟩ := HG; obtain ⟨A', cap', rfl⟩ := own_shape hG.own; replace hG := Lib.hid hG)
  all_goals
    have HD := Lib.hid ((HYb.out.later (by first | exact (below_new (Below.refl _ _) _).drew | exact below_new (Below.refl _ _).drew _)).addDeed ⟨k, kd, e, x, s, Y.moves, -1, false, 0, 0, 0⟩ hG.out)
    obtain ⟨l6, hM, hMl, hMk⟩ := ymoves HD.out
    have HM := Lib.hid hM
    have HMk := Lib.hid hMk
    clear c0 c1 c2 c3 c4 c5 c6 c7 c8 q0 q1 q2 q3 c6' f6' hG hM hMk HYb
    have c7 := HD.out.cells.c7
    have f7 := HD.out.objAt.fz 7
    clear HD
    go_wp2
    go_ret
    refine ⟨rfl, l6, _, ⟨_, _, _, HM.out⟩, ?_, fun j A1 hj hf => ?_, fun j hj hf => ⟨hf.1, fun k1 a1 hk1 => ?_⟩⟩
    · rw [hMl, List.length_set, List.length_set, HLN.out]
      omega
    · refine HMk.out j A1 hf.1 ?_
      rw [List.getElem?_set_ne (by have := hf.1; omega), List.getElem?_set_ne (by have := hf.1; omega)]
      exact HK.out j A1 hf.1 hj
    · rcases yset hk1 with ⟨e1, _, _⟩ | ⟨e1, hk1⟩
      · simp only [e1.symm, if_true]
        omega
      · have e2 : ¬ k1 = k := fun e => e1 e.symm
        simp only [e2, if_false]
        exact hf.2 k1 a1 hk1
end

end Go.Proofs.YtpfjommkjkbonaaGreat
