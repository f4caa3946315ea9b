/-
  The contract of run of package stackyardlaw05: stamps that are made by picks of threads; of two of which the one was done ahead of the other's first step it is before that one. No condition but that there are 120 picks at most.
-/
import Derived.Test.YtlogcoaajmbfeaaRunBase
import Derived.Test.YtlogcoaajmbfeaaTickRun
import Derived.Test.YtlogcoaajmbfeaaWalkTickRises
namespace Go.Proofs.Ytlogcoaajmbfeaa
open Go.RowKit
set_option linter.unusedVariables false

/-- What run tells. -/
def RunPost (w : World) (r : Ending) (w' : World) : Prop :=
  ∃ (D : List Dn) (va vf vl : Value), r = .returned (.tuple #[va, vf, vl]) ∧ w'.ownsRow w.heap.size 35 2 va D.length (flat2 (D.map fun x => (x.lo, x.hi))) ∧ w'.ownsRow w.heap.size 3 1 vf D.length (D.map fun x => i64 x.first) ∧ w'.ownsRow w.heap.size 3 1 vl D.length (D.map fun x => i64 x.last) ∧
    Below w.heap.size w w' ∧ D.length ≤ 120 ∧ (∀ x ∈ D, 0 ≤ x.lo ∧ x.lo ≤ x.hi ∧ x.hi < 16777215) ∧ ∀ x ∈ D, ∀ y ∈ D, x.last < y.first → x.hi < y.lo

theorem made_tk (n : Nat) : (madeCells (Value.pointer none).cells (n * 1)).toList = (List.replicate n none).map ptrV := by
  rw [Nat.mul_one, List.map_replicate]
  exact toList_madeCells_one (.pointer none) n
theorem made_int (n : Nat) : (madeCells (Value.int .i64 0).cells (n * 1)).toList = (List.replicate n (0 : Int)).map i64 := by
  rw [Nat.mul_one, List.map_replicate]
  exact toList_madeCells_one (.int .i64 0) n

theorem src_cells (w : World) (cs : List Value) (ty : TypeId) (size m : Nat) (hl : cs.length = m * size) (h1 : ∀ u ∈ cs, u.oneCell' = true) : Src (w.alloc (.cells cs.toArray ty)) size (some ⟨w.heap.size, 0, none⟩) m cs :=
  ⟨(fun h => by cases h), hl, fun ad had j u hj => by
    cases had
    rw [addr_add', Nat.zero_add]
    have : (w.alloc (.cells cs.toArray ty)).cell? ⟨w.heap.size, j, none⟩ = cs.toArray[j]? := World.cell?_alloc_new w _ _ j
    rw [this, List.getElem?_toArray]
    exact hj, h1⟩

theorem one2 {x y : Int} : ∀ u ∈ [i64 x, i64 y], u.oneCell' = true := by
  intro u hu
  simp at hu
  rcases hu with rfl | rfl <;> rfl
theorem one1 (x : Int) : ∀ u ∈ [i64 x], u.oneCell' = true := by
  intro u hu
  simp at hu
  subst hu
  rfl

theorem Run.cell {W wr : World} {tn : Nat} {s : Sx} (h : Run W wr tn s) {j : Nat} (hj : j < tn) {e : Option (Nat × Tk)} (he : s.Ks[j]? = some e) : wr.cell? ⟨s.lb, j, none⟩ = some (ptrV e) ∧ wr.frozen? ⟨s.lb, j, none⟩ = false := by
  refine ⟨?_, h.rt.frozenAt j⟩
  rw [h.rt.cellAt j (by omega), List.getElem?_map, he]
  rfl
theorem Run.begunAt {W wr : World} {tn : Nat} {s : Sx} (h : Run W wr tn s) {j : Nat} (hj : j < tn) (hb : s.Bg.length = tn) : wr.cell? ⟨s.gb, j, none⟩ = some (i64 (s.Bg.getD j 0)) ∧ wr.frozen? ⟨s.gb, j, none⟩ = false := by
  refine ⟨?_, h.rg.frozenAt j⟩
  rw [h.rg.cellAt j (by omega), List.getElem?_map, getD_at (by omega)]
  rfl

set_option maxRecDepth 100000 in
set_option maxHeartbeats 20000000 in
theorem run_any (tn : Nat) (so d : Int) (a1 : Option Addr) (len1 cap1 : Nat) (now0 : Int) (w : World) (w1 : IsRows w [.inl .i64] a1 len1 cap1) (hlen : len1 ≤ 120) (t1 : 1 ≤ (tn : Int)) (t2 : (tn : Int) ≤ 4) (s0 : 0 ≤ so) (s4 : so ≤ 4) (d0 : 0 ≤ d) (d3 : d ≤ 3) (l4 : 0 ≤ now0) (g4 : now0 ≤ 65535) :
    Calls Try.prog 22 #[cf tn 1 so d, .slice a1 len1 cap1, i64 now0] w (RunPost w) := by
  have W1 := Lib.hid w1
  have HA := Lib.hid (AtC.made w tn 1 so d)
  have HB : Hid (Below w.heap.size w (w.alloc (.cells #[.int .i64 tn, .int .i64 1, .int .i64 so, .int .i64 d] 26))) := below_new (Below.refl _ _) _
  have Hs : Hid (w.heap.size < (w.alloc (.cells #[.int .i64 tn, .int .i64 1, .int .i64 so, .int .i64 d] 26)).heap.size) := by show _ < _; simp
  have ht0 : ((tn : Int) == 0) = false := by simp; omega
  obtain ⟨nb, hnb⟩ : ∃ nb : Nat, (nb : Int) = 3 * tn := ⟨3 * tn, by omega⟩
  have Hnb := Lib.hid hnb
  have hlay := Lay.of4 t1 t2
  have hto : (tn : Int).toNat = tn := by omega
  have Hto := Lib.hid hto
  clear w1 hnb hto
  go_enter Try.func22, Try.ntmps22
  go_wp2_with fail
  generalize w.alloc (.cells #[.int .i64 tn, .int .i64 1, .int .i64 so, .int .i64 d] 26) = W at HA HB Hs ⊢
  generalize hcb : w.heap.size = cb at HA Hs ⊢
  have Hcb := Lib.hid hcb
  clear hcb
  refine (ccells_any tn 1 so d tn _ hlay).mono ?_
  rintro r w1 ⟨rfl, hb1⟩
  go_wp2_with fail
  refine (new_nat W.heap.size (nb + tn) _ _ hb1.size (by have := Hnb.out; omega) (.inl (by have := Hnb.out; omega))).mono ?_
  rintro r w2 ⟨p, c, rfl, hM2, hb2, hp, hc⟩
  have hO := Own.made hb1 hM2 hb2
  have hcp := hM2.pc
  obtain ⟨q0, q1, q2, q3⟩ := HA.out.later hO.below Hs.out
  obtain ⟨ik, hk1, hk2, hk3, hk4⟩ := elem_tk.info
  obtain ⟨ii, hi1, hi2, hi3, hi4⟩ := elem_int.info
  go_wp2_with (first
    | (at_make; refine wpList_make_full _ rfl _ _ 79 rfl W.heap.size 31 ik (.pointer none) 1 elem_tk.und hk1 hk2 hk3 .i64 .i64 _ _ tn rfl rfl rfl rfl (by rw [hk4]; omega) (by unfold maxLen; omega) hO.size ?_; intro w3 hown3 hg3; have hO3 := hO.later ((Below.refl _ _).grown hg3 (Nat.le_refl _) (fun k hk => by cases hk)); replace hown3 := Lib.hid hown3; have hg3' := Lib.hid hg3; clear hg3 q0 q1 q2 q3; obtain ⟨q0, q1, q2, q3⟩ := HA.out.later hO3.below Hs.out)
    | (at_make; refine wpList_make_full _ rfl _ _ 52 rfl W.heap.size 3 ii (.int .i64 0) 1 elem_int.und hi1 hi2 hi3 .i64 .i64 _ _ tn rfl rfl rfl rfl (by rw [hi4]; omega) (by unfold maxLen; omega) hO3.size ?_; intro w4 hown4 hg4; have hO4 := hO3.later ((Below.refl _ _).grown hg4 (Nat.le_refl _) (fun k hk => by cases hk)); replace hown4 := Lib.hid hown4; have hg4' := Lib.hid hg4; clear hg4 q0 q1 q2 q3; obtain ⟨q0, q1, q2, q3⟩ := HA.out.later hO4.below Hs.out))
  have hsz : w2.heap.size < w3.heap.size ∧ w3.heap.size < w4.heap.size := ⟨(hown3.out.lt _ rfl).2, (hown4.out.lt _ rfl).2⟩
  have hpc := hM2.ps
  have hcc := hM2.cb
  have hpb := hM2.pb
  have hrow4 := (Keep.of_grown (T := fun _ => False) hg4'.out (fun k hk => by cases hk)).row hown3.out (fun _ _ h => h)
  have hR0 : Run W (((w4.alloc (.cells #[] 35)).alloc (.cells #[] 3)).alloc (.cells #[] 3)) tn ⟨fun a => (([some p, some c, none, some w2.heap.size, some w3.heap.size, some w4.heap.size, some (w4.heap.size + 1), some (w4.heap.size + 1 + 1)] : List (Option Nat))[a]?).join, p, c, .slice none 0 0, List.replicate (nb + tn) 0, [], w2.heap.size, w3.heap.size, List.replicate tn none, List.replicate tn 0, .slice (some ⟨w4.heap.size, 0, none⟩) 0 0, [], .slice (some ⟨w4.heap.size + 1, 0, none⟩) 0 0, [], .slice (some ⟨w4.heap.size + 1 + 1, 0, none⟩) 0 0, []⟩ := by
    have e1 : (w4.alloc (.cells #[] 35)).heap.size = w4.heap.size + 1 := by simp
    have e2 : ((w4.alloc (.cells #[] 35)).alloc (.cells #[] 3)).heap.size = w4.heap.size + 1 + 1 := by simp
    have e3 : (((w4.alloc (.cells #[] 35)).alloc (.cells #[] 3)).alloc (.cells #[] 3)).heap.size = w4.heap.size + 1 + 1 + 1 := by simp
    have b1 : Below w4.heap.size w4 (w4.alloc (.cells #[] 35)) := below_new (Below.refl _ _) _
    have b2 : Below (w4.alloc (.cells #[] 35)).heap.size (w4.alloc (.cells #[] 35)) ((w4.alloc (.cells #[] 35)).alloc (.cells #[] 3)) := below_new (Below.refl _ _) _
    have b3 : Below ((w4.alloc (.cells #[] 35)).alloc (.cells #[] 3)).heap.size ((w4.alloc (.cells #[] 35)).alloc (.cells #[] 3)) (((w4.alloc (.cells #[] 35)).alloc (.cells #[] 3)).alloc (.cells #[] 3)) := below_new (Below.refl _ _) _
    have b13 := below_step b1 (below_step' (Below.refl _ _) b2 (Nat.le_refl _))
    have b14 := below_step b13 b3
    have hw4 : W.heap.size ≤ w4.heap.size := hO4.size
    have k14 : Keep (fun _ => False) w4 _ := Keep.of_below b14
    have m1 := World.ownsRow_made (base := W.heap.size) (e := 35) (size := 2) w4 #[] 0 hw4 (by unfold maxLen; omega) rfl
    have m2 := World.ownsRow_made (base := W.heap.size) (e := 3) (size := 1) (w4.alloc (.cells #[] 35)) #[] 0 (by omega) (by unfold maxLen; omega) rfl
    have m3 := World.ownsRow_made (base := W.heap.size) (e := 3) (size := 1) ((w4.alloc (.cells #[] 35)).alloc (.cells #[] 3)) #[] 0 (by omega) (by unfold maxLen; omega) rfl
    rw [e1] at m2
    rw [e2] at m3
    refine ⟨hO4.later b14, ?_, ?_, rfl, rfl, rfl, rfl, rfl, rfl, rfl, rfl, fun j => ?_, fun j b k h => ?_, ?_, ?_, ?_, ?_, ?_⟩
    · intro a k h
      rcases a with _ | _ | _ | _ | _ | _ | _ | _ | a
      all_goals simp at h
      all_goals omega
    · intro a b k ha hb
      rcases a with _ | _ | _ | _ | _ | _ | _ | _ | a
      all_goals simp at ha
      all_goals
        rcases b with _ | _ | _ | _ | _ | _ | _ | _ | b
        all_goals simp at hb
        all_goals omega
    · show (([some p, some c, none, some w2.heap.size, some w3.heap.size, some w4.heap.size, some (w4.heap.size + 1), some (w4.heap.size + 1 + 1)] : List (Option Nat))[8 + j]?).join = (((List.replicate tn (none : Option (Nat × Tk)))[j]?).join).map (·.1)
      rw [List.getElem?_eq_none (by simp), List.getElem?_replicate]
      split <;> rfl
    · have h' : (List.replicate tn (none : Option (Nat × Tk)))[j]? = some (some (b, k)) := h
      rw [List.getElem?_replicate] at h'
      split at h' <;> cases h'
    · rw [← made_tk]
      exact k14.row hrow4 (fun _ _ h => h)
    · rw [← made_int]
      exact k14.row hown4.out (fun _ _ h => h)
    · exact (Keep.of_below (T := fun _ => False) b3).row ((Keep.of_below (T := fun _ => False) b2).row m1 (fun _ _ h => h)) (fun _ _ h => h)
    · exact (Keep.of_below (T := fun _ => False) b3).row m2 (fun _ _ h => h)
    · exact m3
  have HR0 := Lib.hid hR0
  have HI0 := Lib.hid (InvR.start (nb := nb) (t := (tn : Int)) (so := so) (d := d) (now0 := now0) t1 t2)
  rw [Hto.out] at HI0
  clear hR0 hsz hpc hcc hpb hrow4 hO hO3 hO4 hM2 hb1 hb2 hp hc hcp q0 q1 q2 q3 hown3 hown4 hg3' hg4' hk1 hk2 hk3 hk4 hi1 hi2 hi3 hi4
  generalize w2.heap.size = lb at HR0 ⊢
  generalize w3.heap.size = gb at HR0 ⊢
  go_loopw [12, 13, 14, 32] (fun va vf vl i wr => ∃ (n : Nat) (s : Sx) (D : List Dn), n ≤ len1 ∧ i = .int .i64 n ∧ va = s.va ∧ vf = s.vf ∧ vl = s.vl ∧ Hid (Run W wr tn s) ∧ Hid (InvR nb tn so d now0 n s.Ks s.Bg s.C D s.L) ∧ Hid (s.p = p ∧ s.lb = lb ∧ s.gb = gb) ∧ Hid (s.A = D.map (fun x => (x.lo, x.hi)) ∧ s.F = D.map (fun x => x.first) ∧ s.G = D.map (fun x => x.last))) (fun _ _ _ i _ => 200 - (intOf i).toNat)
  case atStart => exact ⟨0, _, [], by omega, rfl, rfl, rfl, rfl, HR0, HI0, ⟨rfl, rfl, rfl⟩, ⟨rfl, rfl, rfl⟩⟩
  case round =>
    clear HR0 HI0
    obtain ⟨n, s, D, hn, rfl, rfl, rfl, rfl, hR, hI, hP, hD⟩ := hrel
    rcases Nat.lt_or_ge n len1 with hlt | hge
    · obtain ⟨tb, off, X, rfl, hcap, htb, hX⟩ := rows_int W1.out (by omega)
      have hx1 := ((below_step' HB.out hR.out.own.below HB.out.size).cell (p := ⟨tb, off + n, none⟩) htb).trans (hX n hlt)
      generalize X n = pk at hx1
      clear hX
      obtain ⟨u, hu, u0, u1⟩ : ∃ u, bits .and .i64 pk 65535 = u ∧ 0 ≤ u ∧ u ≤ 65535 := ⟨_, and_ffff pk, by omega, by omega⟩
      obtain ⟨j, hj, hjt⟩ : ∃ j : Nat, u % (tn : Int) = (j : Int) ∧ j < tn := by
        have h1 := Int.emod_nonneg u (show (tn : Int) ≠ 0 by omega)
        have h2 := Int.emod_lt_of_pos u (show 0 < (tn : Int) by omega)
        exact ⟨(u % (tn : Int)).toNat, by omega, by omega⟩
      obtain ⟨rfl, rfl, rfl⟩ := hP.out
      obtain ⟨q0, q1, q2, q3⟩ := HA.out.later hR.out.own.below Hs.out
      have hkl := hI.out.kl
      have hbl := hI.out.bl
      have hjl : j < s.Ks.length := by omega
      obtain ⟨e, he⟩ : ∃ e, s.Ks[j]? = some e := ⟨_, List.getElem?_eq_getElem hjl⟩
      obtain ⟨x1, x2⟩ := hR.out.cell hjt he
      have Hkl := Lib.hid hkl
      have Hbl := Lib.hid hbl
      have Hej := Lib.hid he
      clear hkl hbl he
      cases e with
      | some bk =>
        obtain ⟨b, k⟩ := bk
        replace x1 : wr.cell? ⟨s.lb, j, none⟩ = some (pt b) := x1
        have hR' := hR
        have hI' := hI
        have hK' := Hej
        have hD' := hD
        have hFa : Hid (¬ Foot s.p s.c s.v b) := by
          rintro (hh | hh | hh)
          · have := hR'.out.inj _ _ _ (hR'.out.key hK'.out) (hR'.out.o0.trans (by rw [hh])); omega
          · have := hR'.out.inj _ _ _ (hR'.out.key hK'.out) (hR'.out.o1.trans (by rw [hh])); omega
          · have := hR'.out.inj _ _ _ (hR'.out.key hK'.out) (hR'.out.o2.trans hh); omega
        clear hR hI Hej hD
        go_wp2_with fail
        obtain ⟨k', C', oe, hstp⟩ : ∃ k' C' oe, stp nb k s.C (now0 + n) = (k', C', oe) := ⟨(stp nb k s.C (now0 + n)).1, (stp nb k s.C (now0 + n)).2.1, (stp nb k s.C (now0 + n)).2.2, rfl⟩
        have hst := step_any W.heap.size _ b s.p s.c s.v s.C s.L k nb tn (now0 + n) (hI'.out.ent j b k hK'.out).1.ok (by omega) (hR'.out.tks j b k hK'.out) hR'.out.own.mem hFa.out hR'.out.own.size (by have := hI'.out.ll; omega)
        rw [hstp] at hst
        refine hst.mono ?_
        rintro r w6 ⟨rfl, v6, hS⟩
        have hR6 := hR'.out.step hK'.out hS
        have hI6 := hI'.out.step j b k (by omega) hK'.out (by omega) l4 g4 hstp
        have hKs6 : (s.Ks.set j (some (b, k')))[j]? = some (some (b, k')) := by rw [List.getElem?_set, if_pos rfl, if_pos (List.getElem?_eq_some_iff.1 hK'.out).1]
        have HKs6 := Lib.hid hKs6
        obtain ⟨z1, z2⟩ := hR6.cell (j := j) hjt hKs6
        replace z1 : w6.cell? ⟨s.lb, j, none⟩ = some (pt b) := z1
        replace z2 : w6.frozen? ⟨s.lb, j, none⟩ = false := z2
        have hbg : s.Bg.length = tn := by have := hI'.out.bl; omega
        have Hbg := Lib.hid hbg
        have HR6 := Lib.hid hR6
        have hAl : s.A.length ≤ n := by have := hI'.out.dl; have := hD'.out.1; rw [this]; simpa using hI'.out.dl
        have hFl : s.F.length ≤ n := by have := hI'.out.dl; have := hD'.out.2.1; rw [this]; simpa using hI'.out.dl
        have hGl : s.G.length ≤ n := by have := hI'.out.dl; have := hD'.out.2.2; rw [this]; simpa using hI'.out.dl
        clear hst hstp hS hR6 hKs6 hbg
        rcases hI6 with ⟨hp, hI6⟩ | ⟨hp, hI6⟩
        · have HI6 := Lib.hid hI6
          rw [hp]
          have HP := Lib.hid hp
          clear hp hI6
          go_wp2_with fail
          refine (phase_any _ b k' (HR6.out.tks j b k' HKs6.out)).mono ?_
          rintro r w' ⟨rfl, rfl⟩
          rw [HP.out]
          go_wp2_with fail
          go_roundw
          case rel => exact ⟨n + 1, { s with o := upd s.o 2 v6.ownBlock, v := v6, C := C', L := s.L ++ oe.toList, Ks := s.Ks.set j (some (b, k')), Bg := s.Bg }, D, by omega, by go_num, rfl, rfl, rfl, HR6, HI6, ⟨rfl, rfl, rfl⟩, hD'⟩
          case measure => simp [intOf]; omega
        · have HI6 := Lib.hid hI6
          rw [hp]
          have HP := Lib.hid hp
          clear hp hI6
          go_wp2_with fail
          refine (stamp_any _ b k' (HR6.out.tks j b k' HKs6.out)).mono ?_
          rintro r w7 ⟨rfl, hb7⟩
          have HR7 := Lib.hid (HR6.out.later hb7)
          clear hb7 z1 z2
          go_wp2_with (first
            | (at_builtin; refine list_append_grew rfl _ _ 54 rfl W.heap.size 35 _ 2 16 elem_st s.va s.A.length (flat2 s.A) rfl ((HR7.out.later (below_new (Below.refl _ _) _)).ra) (some ⟨_, 0, none⟩) 1 1 [i64 k'.lo, i64 k'.hi] rfl (src_cells w7 [i64 k'.lo, i64 k'.hi] 35 2 1 rfl one2) (by unfold maxLen; omega) (by omega) ((HR7.out.later (below_new (Below.refl _ _) _)).own.size) ?_; intro va' w8 hG; have HR8 := Lib.hid ((HR7.out.later (below_new (Below.refl _ _) (.cells #[i64 k'.lo, i64 k'.hi] 35))).appA hG); clear hG; obtain ⟨y1, y2⟩ := HR8.out.begunAt hjt Hbg.out; replace y1 : w8.cell? ⟨s.gb, j, none⟩ = some (i64 (s.Bg.getD j 0)) := y1; clear y2)
            | (at_builtin; refine list_append_grew rfl _ _ 52 rfl W.heap.size 3 _ 1 8 elem_int s.vf s.F.length (s.F.map i64) rfl ((HR8.out.later (below_new (Below.refl _ _) _)).rf) (some ⟨_, 0, none⟩) 1 1 [i64 (s.Bg.getD j 0)] rfl (src_cells w8 [i64 (s.Bg.getD j 0)] 3 1 1 rfl (one1 _)) (by unfold maxLen; omega) (by omega) ((HR8.out.later (below_new (Below.refl _ _) _)).own.size) ?_; intro vf' w9 hG; have HR9 := Lib.hid ((HR8.out.later (below_new (Below.refl _ _) (.cells #[i64 (s.Bg.getD j 0)] 3))).appF hG); clear hG)
            | (at_builtin; refine list_append_grew rfl _ _ 52 rfl W.heap.size 3 _ 1 8 elem_int s.vl s.G.length (s.G.map i64) rfl ((HR9.out.later (below_new (Below.refl _ _) _)).rl) (some ⟨_, 0, none⟩) 1 1 [i64 n] rfl (src_cells w9 [i64 n] 3 1 1 rfl (one1 _)) (by unfold maxLen; omega) (by omega) ((HR9.out.later (below_new (Below.refl _ _) _)).own.size) ?_; intro vl' w10 hG; have HR10 := Lib.hid ((HR9.out.later (below_new (Below.refl _ _) (.cells #[i64 n] 3))).appG hG); clear hG; obtain ⟨z1, z2⟩ := HR10.out.cell (j := j) hjt HKs6.out; replace z1 : w10.cell? ⟨s.lb, j, none⟩ = some (pt b) := z1; replace z2 : w10.frozen? ⟨s.lb, j, none⟩ = false := z2))
          refine (phase_any _ b k' (HR10.out.tks j b k' HKs6.out)).mono ?_
          rintro r w' ⟨rfl, rfl⟩
          rw [HP.out]
          go_wp2_with fail
          have HR11 := Lib.hid (HR10.out.setT j none (by show j < (s.Ks.set j (some (b, k'))).length; rw [List.length_set]; exact (List.getElem?_eq_some_iff.1 hK'.out).1) (fun b k h => by cases h))
          have HI7 : Hid (InvR nb tn so d now0 (n + 1) ((s.Ks.set j (some (b, k'))).set j none) s.Bg C' (D ++ [⟨k'.lo, k'.hi, s.Bg.getD j 0, n⟩]) (s.L ++ oe.toList)) := by
            show InvR _ _ _ _ _ _ _ _ _ _ _
            rw [List.set_set]
            exact HI6.out
          have HD7 : Hid (s.A ++ [(k'.lo, k'.hi)] = (D ++ ([⟨k'.lo, k'.hi, s.Bg.getD j 0, n⟩] : List Dn)).map (fun x : Dn => (x.lo, x.hi)) ∧ s.F ++ [s.Bg.getD j 0] = (D ++ ([⟨k'.lo, k'.hi, s.Bg.getD j 0, n⟩] : List Dn)).map (fun x : Dn => x.first) ∧ s.G ++ [(n : Int)] = (D ++ ([⟨k'.lo, k'.hi, s.Bg.getD j 0, n⟩] : List Dn)).map (fun x : Dn => x.last)) := by
            obtain ⟨e1, e2, e3⟩ := hD'.out
            exact ⟨by rw [e1, List.map_append]; rfl, by rw [e2, List.map_append]; rfl, by rw [e3, List.map_append]; rfl⟩
          clear HR10 HI6 z1 z2
          go_roundw
          case rel => exact ⟨n + 1, { s with o := upd (upd (upd (upd (upd s.o 2 v6.ownBlock) 5 va'.ownBlock) 6 vf'.ownBlock) 7 vl'.ownBlock) (8 + j) none, v := v6, C := C', L := s.L ++ oe.toList, Ks := (s.Ks.set j (some (b, k'))).set j none, Bg := s.Bg, va := va', A := s.A ++ [(k'.lo, k'.hi)], vf := vf', F := s.F ++ [s.Bg.getD j 0], vl := vl', G := s.G ++ [(n : Int)] }, D ++ [⟨k'.lo, k'.hi, s.Bg.getD j 0, n⟩], by omega, by go_num, rfl, rfl, rfl, HR11, HI7, ⟨rfl, rfl, rfl⟩, HD7⟩
          case measure => simp [intOf]; omega
      | none =>
        replace x1 : wr.cell? ⟨s.lb, j, none⟩ = some (.pointer none) := x1
        have hok0 := (solo_0 (now := 0) (so := so) (d := d) t1 t2 s0 s4 d0 d3 (show (0 : Int) ≤ (j : Int) by omega) (show (j : Int) < (tn : Int) by omega) Hnb.out).ok
        have Hok0 := Lib.hid (ok_len (C' := s.C) hok0 (by rw [hI.out.cl]; simp))
        clear hok0
        go_wp2_with fail
        refine (tnew_any _ tn 1 so d j).mono ?_
        rintro r w3 ⟨b, rfl, hT, hb3, hbb⟩
        have hR3 := hR.out.later hb3
        have hnew : ∀ a, s.o a ≠ some b := fun a ha => by have := (hR.out.lt a b ha).2; omega
        have hI' := Lib.hid (hI.out.begin j b (by omega) Hok0.out)
        obtain ⟨k, Hk⟩ : ∃ k, tk0 (tn : Int) 1 so d j = k := ⟨_, rfl⟩
        rw [Hk] at hT hI'
        have hR4 := (hR3.setT j (some (b, k)) hjl (fun b' k' h => by cases h; exact ⟨hT, Nat.le_trans hR.out.own.size hbb, hnew⟩)).setB j n hjt
        have hR' : Hid (Run W ((w3.setCell ⟨s.lb, j, none⟩ (pt b)).setCell ⟨s.gb, j, none⟩ (i64 n)) tn { s with o := upd s.o (8 + j) (some b), Ks := s.Ks.set j (some (b, k)), Bg := s.Bg.set j n }) := hR4
        have hK' : Hid ((s.Ks.set j (some (b, k)))[j]? = some (some (b, k))) := by show _ = _; rw [List.getElem?_set, if_pos rfl, if_pos hjl]
        have hD' := hD
        have hFa : Hid (¬ Foot s.p s.c s.v b) := by
          rintro (hh | hh | hh)
          · have := hR'.out.inj _ _ _ (hR'.out.key hK'.out) (hR'.out.o0.trans (by rw [hh])); omega
          · have := hR'.out.inj _ _ _ (hR'.out.key hK'.out) (hR'.out.o1.trans (by rw [hh])); omega
          · have := hR'.out.inj _ _ _ (hR'.out.key hK'.out) (hR'.out.o2.trans hh); omega
        obtain ⟨x3, x4⟩ := hR3.cell hjt Hej.out
        replace x3 : w3.cell? ⟨s.lb, j, none⟩ = some (.pointer none) := x3
        obtain ⟨x5, x6⟩ := hR3.begunAt hjt (by have := Hbl.out; omega)
        have hlg : ¬ s.lb = s.gb := fun e => by have := hR.out.inj _ _ _ hR.out.o3 (hR.out.o4.trans (by rw [← e])); omega
        have hgl : ¬ s.gb = s.lb := fun e => hlg e.symm
        clear hR hI Hej hD hR3 hR4 hb3 hbb hT hnew Hk
        go_wp2_with fail
        obtain ⟨k', C', oe, hstp⟩ : ∃ k' C' oe, stp nb k s.C (now0 + n) = (k', C', oe) := ⟨(stp nb k s.C (now0 + n)).1, (stp nb k s.C (now0 + n)).2.1, (stp nb k s.C (now0 + n)).2.2, rfl⟩
        have hst := step_any W.heap.size _ b s.p s.c s.v s.C s.L k nb tn (now0 + n) (hI'.out.ent j b k hK'.out).1.ok (by omega) (hR'.out.tks j b k hK'.out) hR'.out.own.mem hFa.out hR'.out.own.size (by have := hI'.out.ll; omega)
        rw [hstp] at hst
        refine hst.mono ?_
        rintro r w6 ⟨rfl, v6, hS⟩
        have hR6 := hR'.out.step hK'.out hS
        have hI6 := hI'.out.step j b k (by omega) hK'.out (by omega) l4 g4 hstp
        have hKs6 : ((s.Ks.set j (some (b, k))).set j (some (b, k')))[j]? = some (some (b, k')) := by rw [List.getElem?_set, if_pos rfl, if_pos (List.getElem?_eq_some_iff.1 hK'.out).1]
        have HKs6 := Lib.hid hKs6
        obtain ⟨z1, z2⟩ := hR6.cell (j := j) hjt hKs6
        replace z1 : w6.cell? ⟨s.lb, j, none⟩ = some (pt b) := z1
        replace z2 : w6.frozen? ⟨s.lb, j, none⟩ = false := z2
        have hbg : (s.Bg.set j n).length = tn := by have := hI'.out.bl; omega
        have Hbg := Lib.hid hbg
        have HR6 := Lib.hid hR6
        have hAl : s.A.length ≤ n := by have := hI'.out.dl; have := hD'.out.1; rw [this]; simpa using hI'.out.dl
        have hFl : s.F.length ≤ n := by have := hI'.out.dl; have := hD'.out.2.1; rw [this]; simpa using hI'.out.dl
        have hGl : s.G.length ≤ n := by have := hI'.out.dl; have := hD'.out.2.2; rw [this]; simpa using hI'.out.dl
        clear hst hstp hS hR6 hKs6 hbg
        rcases hI6 with ⟨hp, hI6⟩ | ⟨hp, hI6⟩
        · have HI6 := Lib.hid hI6
          rw [hp]
          have HP := Lib.hid hp
          clear hp hI6
          go_wp2_with fail
          refine (phase_any _ b k' (HR6.out.tks j b k' HKs6.out)).mono ?_
          rintro r w' ⟨rfl, rfl⟩
          rw [HP.out]
          go_wp2_with fail
          go_roundw
          case rel => exact ⟨n + 1, { s with o := upd (upd s.o (8 + j) (some b)) 2 v6.ownBlock, v := v6, C := C', L := s.L ++ oe.toList, Ks := (s.Ks.set j (some (b, k))).set j (some (b, k')), Bg := (s.Bg.set j n) }, D, by omega, by go_num, rfl, rfl, rfl, HR6, HI6, ⟨rfl, rfl, rfl⟩, hD'⟩
          case measure => simp [intOf]; omega
        · have HI6 := Lib.hid hI6
          rw [hp]
          have HP := Lib.hid hp
          clear hp hI6
          go_wp2_with fail
          refine (stamp_any _ b k' (HR6.out.tks j b k' HKs6.out)).mono ?_
          rintro r w7 ⟨rfl, hb7⟩
          have HR7 := Lib.hid (HR6.out.later hb7)
          clear hb7 z1 z2
          go_wp2_with (first
            | (at_builtin; refine list_append_grew rfl _ _ 54 rfl W.heap.size 35 _ 2 16 elem_st s.va s.A.length (flat2 s.A) rfl ((HR7.out.later (below_new (Below.refl _ _) _)).ra) (some ⟨_, 0, none⟩) 1 1 [i64 k'.lo, i64 k'.hi] rfl (src_cells w7 [i64 k'.lo, i64 k'.hi] 35 2 1 rfl one2) (by unfold maxLen; omega) (by omega) ((HR7.out.later (below_new (Below.refl _ _) _)).own.size) ?_; intro va' w8 hG; have HR8 := Lib.hid ((HR7.out.later (below_new (Below.refl _ _) (.cells #[i64 k'.lo, i64 k'.hi] 35))).appA hG); clear hG; obtain ⟨y1, y2⟩ := HR8.out.begunAt hjt Hbg.out; replace y1 : w8.cell? ⟨s.gb, j, none⟩ = some (i64 ((s.Bg.set j n).getD j 0)) := y1; clear y2)
            | (at_builtin; refine list_append_grew rfl _ _ 52 rfl W.heap.size 3 _ 1 8 elem_int s.vf s.F.length (s.F.map i64) rfl ((HR8.out.later (below_new (Below.refl _ _) _)).rf) (some ⟨_, 0, none⟩) 1 1 [i64 ((s.Bg.set j n).getD j 0)] rfl (src_cells w8 [i64 ((s.Bg.set j n).getD j 0)] 3 1 1 rfl (one1 _)) (by unfold maxLen; omega) (by omega) ((HR8.out.later (below_new (Below.refl _ _) _)).own.size) ?_; intro vf' w9 hG; have HR9 := Lib.hid ((HR8.out.later (below_new (Below.refl _ _) (.cells #[i64 ((s.Bg.set j n).getD j 0)] 3))).appF hG); clear hG)
            | (at_builtin; refine list_append_grew rfl _ _ 52 rfl W.heap.size 3 _ 1 8 elem_int s.vl s.G.length (s.G.map i64) rfl ((HR9.out.later (below_new (Below.refl _ _) _)).rl) (some ⟨_, 0, none⟩) 1 1 [i64 n] rfl (src_cells w9 [i64 n] 3 1 1 rfl (one1 _)) (by unfold maxLen; omega) (by omega) ((HR9.out.later (below_new (Below.refl _ _) _)).own.size) ?_; intro vl' w10 hG; have HR10 := Lib.hid ((HR9.out.later (below_new (Below.refl _ _) (.cells #[i64 n] 3))).appG hG); clear hG; obtain ⟨z1, z2⟩ := HR10.out.cell (j := j) hjt HKs6.out; replace z1 : w10.cell? ⟨s.lb, j, none⟩ = some (pt b) := z1; replace z2 : w10.frozen? ⟨s.lb, j, none⟩ = false := z2))
          refine (phase_any _ b k' (HR10.out.tks j b k' HKs6.out)).mono ?_
          rintro r w' ⟨rfl, rfl⟩
          rw [HP.out]
          go_wp2_with fail
          have HR11 := Lib.hid (HR10.out.setT j none (by show j < ((s.Ks.set j (some (b, k))).set j (some (b, k'))).length; rw [List.length_set]; exact (List.getElem?_eq_some_iff.1 hK'.out).1) (fun b k h => by cases h))
          have HI7 : Hid (InvR nb tn so d now0 (n + 1) (((s.Ks.set j (some (b, k))).set j (some (b, k'))).set j none) (s.Bg.set j n) C' (D ++ [⟨k'.lo, k'.hi, (s.Bg.set j n).getD j 0, n⟩]) (s.L ++ oe.toList)) := by
            show InvR _ _ _ _ _ _ _ _ _ _ _
            rw [List.set_set]
            exact HI6.out
          have HD7 : Hid (s.A ++ [(k'.lo, k'.hi)] = (D ++ ([⟨k'.lo, k'.hi, (s.Bg.set j n).getD j 0, n⟩] : List Dn)).map (fun x : Dn => (x.lo, x.hi)) ∧ s.F ++ [(s.Bg.set j n).getD j 0] = (D ++ ([⟨k'.lo, k'.hi, (s.Bg.set j n).getD j 0, n⟩] : List Dn)).map (fun x : Dn => x.first) ∧ s.G ++ [(n : Int)] = (D ++ ([⟨k'.lo, k'.hi, (s.Bg.set j n).getD j 0, n⟩] : List Dn)).map (fun x : Dn => x.last)) := by
            obtain ⟨e1, e2, e3⟩ := hD'.out
            exact ⟨by rw [e1, List.map_append]; rfl, by rw [e2, List.map_append]; rfl, by rw [e3, List.map_append]; rfl⟩
          clear HR10 HI6 z1 z2
          go_roundw
          case rel => exact ⟨n + 1, { s with o := upd (upd (upd (upd (upd (upd s.o (8 + j) (some b)) 2 v6.ownBlock) 5 va'.ownBlock) 6 vf'.ownBlock) 7 vl'.ownBlock) (8 + j) none, v := v6, C := C', L := s.L ++ oe.toList, Ks := ((s.Ks.set j (some (b, k))).set j (some (b, k'))).set j none, Bg := (s.Bg.set j n), va := va', A := s.A ++ [(k'.lo, k'.hi)], vf := vf', F := s.F ++ [(s.Bg.set j n).getD j 0], vl := vl', G := s.G ++ [(n : Int)] }, D ++ [⟨k'.lo, k'.hi, (s.Bg.set j n).getD j 0, n⟩], by omega, by go_num, rfl, rfl, rfl, HR11, HI7, ⟨rfl, rfl, rfl⟩, HD7⟩
          case measure => simp [intOf]; omega
    · obtain rfl : n = len1 := by omega
      go_wp2
      refine bodyPost_ret (v := .tuple #[s.va, s.vf, s.vl]) (by simp [results, Try.results22, go_sem]) rfl ?_
      obtain ⟨e1, e2, e3⟩ := hD.out
      have g1 := hR.out.ra
      have g2 := hR.out.rf
      have g3 := hR.out.rl
      rw [e1] at g1
      rw [e2] at g2
      rw [e3] at g3
      simp only [List.length_map, List.map_map] at g1 g2 g3
      exact ⟨D, s.va, s.vf, s.vl, rfl, row_base g1 HB.out.size, row_base g2 HB.out.size, row_base g3 HB.out.size, below_step' HB.out hR.out.own.below HB.out.size, by have := hI.out.dl; omega, fun x hx => by have := hI.out.rt x hx; omega, hI.out.pd⟩

end Go.Proofs.Ytlogcoaajmbfeaa
