/-
  The contract of hist's Right: whether calls may have been done so. No condition but that the list is no longer than 100000.
-/
import Derived.Test.YtkadjpllappalaaGreatRightCalls
import Derived.Test.YtkadjpllappalaaGreatHistMostCalls
namespace Go.Proofs.YtkadjpllappalaaGreat
open Go.RowKit Go.Maps
set_option linter.unusedVariables false

theorem last_put {l : List Dd} {i : Nat} {d : Dd} (hd : l[i]? = some d) (k : Int) : putF (lastF l i) d.who i k = lastF l (i + 1) k ∧ putM (lastM l i) d.who k = lastM l (i + 1) k := by
  unfold putF putM lastF lastM
  rw [dOwn_succ hd]
  by_cases e : k = d.who
  · subst e
    rw [if_pos rfl, if_pos rfl, decide_eq_true rfl]
    exact ⟨by omega, by rw [Bool.true_or]; exact (decide_eq_true (by omega)).symm⟩
  · rw [if_neg e, if_neg (fun h => e h.symm), decide_eq_false e, Bool.false_or]
    exact ⟨rfl, rfl⟩
theorem mov_one {l : List Dd} {i : Nat} {d : Dd} (hd : l[i]? = some d) (ht : ¬ 0 ≤ d.till) (k : Int) : putM (movM l i) d.fr k = movM l (i + 1) k := by
  rw [movM_succ hd]
  unfold putM
  rw [decide_eq_false ht]
  cases movM l i k <;> cases decide (k = d.fr) <;> rfl
theorem mov_two {l : List Dd} {i : Nat} {d : Dd} (hd : l[i]? = some d) (ht : 0 ≤ d.till) (k : Int) : putM (putM (movM l i) d.fr) d.till k = movM l (i + 1) k := by
  rw [movM_succ hd]
  unfold putM
  rw [decide_eq_true ht]
  cases movM l i k <;> cases decide (k = d.fr) <;> cases decide (k = d.till) <;> rfl
theorem not_all {l : List Dd} {i n : Nat} {d : Dd} {b : Bool} (hb : b = true ↔ DRight l n) (hd : l[i]? = some d) (hi : i < n) (hn : ¬ ROk l i d) : b = false := by
  cases b with
  | false => rfl
  | true => exact absurd (hb.1 rfl) (DRight.not hd hi hn)

theorem box_at (W : World) (v : Value) (T : TypeId) : (W.alloc (.cells #[v] T)).cell? ⟨W.heap.size, 0, none⟩ = some v := by simp

set_option maxRecDepth 100000 in
set_option maxHeartbeats 8000000 in
theorem hright_any (w : World) (a0 : Option Addr) (len cap tb off : Nat) (l : List Dd) (b : Bool) (h : IsDds w a0 len cap tb off l) (hn : len ≤ 100000) (hb : b = true ↔ DRight l len) :
    Calls Tryz.prog 7 #[.slice a0 len cap] w fun e w' => e = .returned (.bool b) ∧ Below w.heap.size w w' := by
  have HL := Lib.hid h
  have HBB := Lib.hid hb
  clear h hb
  have hmm := @run_makeMap Tryz.prog
  go_enter Tryz.func7, Tryz.ntmps7
  go_wp2_with fail
  have HR0 : Hid (RS w (((w.alloc (.map #[] 0)).alloc (.map #[] 0)).alloc (.cells #[.map (some (w.heap.size + 1))] 61)) 0 (2 * 0) (lastF l 0) (lastM l 0) (movM l 0)) :=
    ⟨below_new (below_new (below_new (Below.refl _ _) _) _) _, (((IMap.made w _ _ _ _).later (below_new (Below.refl _ _) _)).later (below_new (Below.refl _ _) _)).as (fun k => by unfold lastF; rw [dOwn]; rfl) (fun k => by unfold lastM; rw [dOwn]; rfl),
      by have := (ISet.made (w.alloc (.map #[] 0)) Tryz.prog 3 .i64).later (below_new (Below.refl _ _) (.cells #[.map (some (w.heap.size + 1))] 61)); rw [World.size_alloc] at this; exact this.as (fun k => rfl), by have h := box_at ((w.alloc (.map #[] 0)).alloc (.map #[] 0)) (.map (some (w.heap.size + 1))) 61; rw [World.size_alloc, World.size_alloc] at h; exact h⟩
  go_loopw [6, 16] (fun av iw wr => ∃ i : Nat, i ≤ len ∧ av = .int .i64 (prevFr l i) ∧ iw = .int .i64 i ∧ DRight l i ∧ Hid (RS w wr i (2 * i) (lastF l i) (lastM l i) (movM l i))) (fun _ iw _ => len - (intOf iw).toNat)
  case atStart => exact ⟨0, Nat.zero_le _, rfl, rfl, DRight.zero, HR0⟩
  case round =>
    clear HR0
    obtain ⟨i, hi, rfl, rfl, hpre, HR⟩ := hrel
    have HP := Lib.hid hpre
    clear hpre
    rcases Nat.lt_or_ge i len with hil | hil
    · have hil' : (i : Int) < (len : Int) := by omega
      have hll : i ≤ l.length := by rw [HL.out.1]; exact hi
      obtain ⟨d, hd⟩ : ∃ d, l[i]? = some d := ⟨_, List.getElem?_eq_getElem (by rw [HL.out.1]; exact hil)⟩
      obtain ⟨rfl, htb⟩ := HL.out.2.2.1 (by omega)
      obtain ⟨hA, hF⟩ := (HL.out.later HR.out.below (fun _ => htb)).2.2.2 i d hd
      have hcap := HL.out.2.1
      obtain ⟨c0, c1, c2, c3, c4, c5, c6, c7, c8, c9, c10⟩ := hA
      have wfw : (Lit.int .i64 d.fr).wf = true := wf_i64 hF.f0 hF.f1
      have wft : (Lit.int .i64 d.till).wf = true := wf_i64 hF.t0 hF.t1
      have wfo : (Lit.int .i64 d.who).wf = true := hF.who
      have HWF := Lib.hid wfw
      have HWT := Lib.hid wft
      have HWO := Lib.hid wfo
      have HD := Lib.hid hd
      clear hd hF wfw wft wfo
      have hpf : ∃ A, prevFr l i = A := ⟨_, rfl⟩
      obtain ⟨A, hA⟩ := hpf
      rw [hA]
      have HA := Lib.hid hA
      clear hA
      go_wp2_with fail
      refine (tcright_any _ d).mono ?_
      rintro e w2 ⟨rfl, hb2⟩
      have HX2 := Lib.hid ((AtBd.made wr d 46).later hb2)
      have HR2 := Lib.hid ((HR.out.later (below_new (Below.refl _ _) (d.obj 46))).later hb2)
      have hbx0 : w.heap.size + 2 < wr.heap.size := HR.out.lt
      clear hb2 c0 c1 c2 c3 c4 c5 c6 c7 c8 c9 c10 HR
      generalize wr.heap.size = B at HX2 hbx0 ⊢
      obtain ⟨g0, g1, g2, g3, g4, g5, g6, g7, g8, g9, g10⟩ := HX2.out
      by_cases hco : cOk d
      case neg =>
        have e1 : decide (cOk d) = false := decide_eq_false hco
        obtain rfl : b = false := not_all HBB.out HD.out hil (fun h => hco h.call)
        clear hco
        go_wp2_with fail
        go_ret
        exact ⟨rfl, HR2.out.below⟩
      have e1 : decide (cOk d) = true := decide_eq_true hco
      have HCO := Lib.hid hco
      clear hco
      by_cases hfr : d.fr ≤ A
      case pos =>
        obtain rfl : b = false := not_all HBB.out HD.out hil (fun h => rFrom_not hll (by rw [HA.out]; exact hfr) h.frm)
        go_wp2_with fail
        go_ret
        exact ⟨rfl, HR2.out.below⟩
      have hlt : prevFr l i < d.fr := by rw [HA.out]; omega
      have HLT := Lib.hid hlt
      clear hlt
      cases hy : movM l i d.fr
      case true =>
        obtain rfl : b = false := not_all HBB.out HD.out hil (fun h => from_known HP.out hll HLT.out hy h.moves)
        have HY := Lib.hid hy
        clear hy
        go_wp2_with fail
        refine (fresh_any _ d.fr _ _ _ _ true HR2.out.box HR2.out.mov (by omega) HWF.out HY.out).mono ?_
        rintro e w3 ⟨rfl, hS, hK⟩
        have HR3 := Lib.hid (HR2.out.keep hK hS)
        clear hS hK
        go_wp2_with fail
        go_ret
        exact ⟨rfl, HR3.out.below⟩
      case false =>
        have HFF := Lib.hid (from_fresh HP.out hll HLT.out hy)
        have HY := Lib.hid hy
        clear hy
        go_wp2_with fail
        refine (fresh_any _ d.fr _ _ _ _ false HR2.out.box HR2.out.mov (by omega) HWF.out HY.out).mono ?_
        rintro e w3 ⟨rfl, hS, hK⟩
        have HR3 := Lib.hid (HR2.out.keep hK hS)
        have HX3 := Lib.hid (HX2.out.keep hK (fun hh => by have : B = w.heap.size + 1 := hh; omega))
        clear hS hK g0 g1 g2 g3 g4 g5 g6 g7 g8 g9 g10 HX2 HR2
        obtain ⟨g0, g1, g2, g3, g4, g5, g6, g7, g8, g9, g10⟩ := HX3.out
        go_wp2_with fail
        refine (over_any _ d).mono ?_
        rintro e w4 ⟨rfl, hb4⟩
        have HR4 := Lib.hid (HR3.out.later hb4)
        have HX4 := Lib.hid (HX3.out.later hb4)
        clear hb4 g0 g1 g2 g3 g4 g5 g6 g7 g8 g9 g10 HX3 HR3
        obtain ⟨g0, g1, g2, g3, g4, g5, g6, g7, g8, g9, g10⟩ := HX4.out
        by_cases hov : 0 ≤ d.till
        case neg =>
          have e3 : decide (0 ≤ d.till) = false := decide_eq_false hov
          have HT : Hid (rTill d) := fun h => absurd h hov
          have HMV : Hid (rMoves l i d) := fun k o hk ho => ⟨HFF.out k o hk ho, fun h => absurd h hov⟩
          have HS : Hid (RS w w4 i (2 * i + 2) (lastF l i) (lastM l i) (movM l (i + 1))) := HR4.out.as (fun _ => rfl) (fun _ => rfl) (mov_one HD.out hov) (by omega)
          have HXD := HX4
          clear g0 g1 g2 g3 g4 g5 g6 g7 g8 g9 g10 HX4 HR4
          obtain ⟨g0, g1, g2, g3, g4, g5, g6, g7, g8, g9, g10⟩ := HXD.out
          cases hy : lastM l i d.who
          case false =>
            have HRO : Hid (ROk l i d) := ⟨HCO.out, rFrom_of HP.out hll HLT.out, HT.out, HMV.out, rOwn_none hy⟩
            have HY := Lib.hid hy
            clear hy
            go_wp2_with (first
              | (at_lookup; refine list_im_look_ok rfl _ _ _ rfl mty_ii rfl HS.out.last _ (lastF l i d.who) false rfl HWO.out rfl HY.out ?_)
              | fail)
            refine wp_region_seq ((0, true) :: (1, true) :: (2, true) :: (3, true) :: (4, true) :: (5, true) :: (6, true) :: (7, false) :: (8, true) :: (9, true) :: []) (by kernel_rfl) (by kernel_rfl) (by kernel_rfl) (by decide) (fun _ _ _ _ _ h => h) (fun hHeld => ?_)
            repeat (first
              | (refine seq_take (v := ?_) rfl ?_ ?_ ?_; rotate_left 1; rfl; (focus (intro wS hSw; have hk := below_rule hSw; go_simp; first | done | with_reducible rfl)); (try simp only [Act.put, List.setIfInBounds_toArray, List.set_cons_zero, List.set_cons_succ]))
              | (refine seq_skip rfl ?_ ?_; rfl; (try simp only [Act.put, List.setIfInBounds_toArray, List.set_cons_zero, List.set_cons_succ]))
              | (refine seq_run rfl (fun K hK => ?_); go_simp; (try skip); (try go_wp2_with fail); refine hK.out _ _ ?_ ?_; (focus (first | exact below_step hHeld hb' | exact below_new hHeld _ | exact hHeld)); (try clear hb'); clear hHeld hK K; intro hHeld; (try simp only [Act.put, List.setIfInBounds_toArray, List.set_cons_zero, List.set_cons_succ])))
            first | refine seq_done ?_ | skip
            have hHD := hHeld
            replace HS := Lib.hid (HS.out.later hHD)
            replace HXD := Lib.hid (HXD.out.later hHD)
            clear hHD hHeld g0 g1 g2 g3 g4 g5 g6 g7 g8 g9 g10
            obtain ⟨g0, g1, g2, g3, g4, g5, g6, g7, g8, g9, g10⟩ := HXD.out
            go_wp2_with fail
            refine wp_region_seqS ((fun w' => w'.cell? ⟨B, 0, none⟩ = some (i64 d.who) ∧ w'.cell? ⟨B, 5, none⟩ = some (i64 d.fr))) ((0, true) :: (1, true) :: (2, true) :: (3, true) :: (4, true) :: (5, true) :: (6, true) :: (7, false) :: []) (by kernel_rfl) (by kernel_rfl) (by kernel_rfl) (by decide) (fun _ _ _ _ _ h => h) (⟨g0, g5⟩) ?_
            repeat (first | (refine seq_take (v := ?_) rfl ?_ ?_ ?_; rotate_left 1; rfl; (focus (intro wS hSw; obtain ⟨s0, s1⟩ := hSw; go_simp; first | done | with_reducible rfl)); (try simp only [Act.put, List.setIfInBounds_toArray, List.set_cons_zero, List.set_cons_succ])) | (refine seq_skip rfl ?_ ?_; rfl; (try simp only [Act.put, List.setIfInBounds_toArray, List.set_cons_zero, List.set_cons_succ])))
            refine seq_run rfl (fun K hK => ?_)
            refine step_im_put (t' := 0) rfl _ _ _ _ rfl mty_ii rfl HS.out.last.drew (by unfold maxLen; omega) d.who (i : Int) rfl rfl HWO.out (wf_i64 (by omega) (by omega)) ?_
            intro w7 hM7 hG7
            have HR7 : Hid (RS w w7 (i + 1) (2 * (i + 1)) (lastF l (i + 1)) (lastM l (i + 1)) (movM l (i + 1))) := (RS.put (HS.out.later (Below.refl _ _).drew) hG7 hM7).as (fun k => (last_put HD.out k).1) (fun k => (last_put HD.out k).2) (fun _ => rfl) (by omega)
            have hnb := AtBd.kept (HXD.out.later (Below.refl _ _).drew) hG7 (fun hh => by have := Option.some.inj hh; omega)
            refine hK.out _ _ ⟨hnb.c0, hnb.c5⟩ (fun _ => ?_)
            simp only [Act.put]
            clear hK K
            refine seq_done ?_
            clear hG7 hM7 hnb
            go_wp2_with fail
            go_roundw
            case rel => exact ⟨i + 1, by omega, congrArg (Value.int .i64) (prevFr_succ HD.out).symm, by go_num, HP.out.next HD.out HRO.out, HR7⟩
            case measure => first | omega | (simp [intOf]; done) | (simp [intOf]; omega)
          case true =>
            obtain ⟨k, o, hk, hki, ho, hro⟩ := own_at_some hy hll
            have HRow := (HL.out.later HS.out.below (fun _ => htb)).2.2.2 k o ho
            obtain ⟨r0, r1, r2, r3, r4, r5, r6, r7, r8, r9, r10⟩ := HRow.1
            have HK := Lib.hid hk
            have HY := Lib.hid hy
            have hkl : k < len := by omega
            clear hk hy ho HRow
            by_cases hbf : dBef o d
            case neg =>
              have e2 : decide (dBef o d) = false := decide_eq_false hbf
              obtain rfl : b = false := not_all HBB.out HD.out hil (fun h => hbf (hro.1 h.own))
              clear hbf hro
              go_wp2_with (first
                | (at_lookup; refine list_im_look_ok rfl _ _ _ rfl mty_ii rfl HS.out.last _ (k : Int) true rfl HWO.out HK.out HY.out ?_)
                | fail)
              refine wp_region_seq ((0, true) :: (1, true) :: (2, true) :: (3, true) :: (4, true) :: (5, true) :: (6, true) :: (7, false) :: (8, true) :: (9, true) :: []) (by kernel_rfl) (by kernel_rfl) (by kernel_rfl) (by decide) (fun _ _ _ _ _ h => h) (fun hHeld => ?_)
              repeat (first
                | (refine seq_take (v := ?_) rfl ?_ ?_ ?_; rotate_left 1; rfl; (focus (intro wS hSw; have hk := below_rule hSw; go_simp; first | done | with_reducible rfl)); (try simp only [Act.put, List.setIfInBounds_toArray, List.set_cons_zero, List.set_cons_succ]))
                | (refine seq_skip rfl ?_ ?_; rfl; (try simp only [Act.put, List.setIfInBounds_toArray, List.set_cons_zero, List.set_cons_succ]))
                | (refine seq_run rfl (fun K hK => ?_); go_simp; (try (first | (go_at_call 12; refine (hbefore_any _ o d).mono ?_; rintro e w' ⟨rfl, hb'⟩))); (try go_wp2_with fail); refine hK.out _ _ ?_ ?_; (focus (first | exact below_step hHeld hb' | exact below_new hHeld _ | exact hHeld)); (try clear hb'); clear hHeld hK K; intro hHeld; (try simp only [Act.put, List.setIfInBounds_toArray, List.set_cons_zero, List.set_cons_succ])))
              first | refine seq_done ?_ | skip
              have hHD := hHeld
              replace HS := Lib.hid (HS.out.later hHD)
              clear hHD hHeld
              go_wp2_with fail
              go_ret
              exact ⟨rfl, HS.out.below⟩
            case pos =>
              have e2 : decide (dBef o d) = true := decide_eq_true hbf
              have HRO : Hid (ROk l i d) := ⟨HCO.out, rFrom_of HP.out hll HLT.out, HT.out, HMV.out, hro.2 hbf⟩
              clear hbf hro
              go_wp2_with (first
                | (at_lookup; refine list_im_look_ok rfl _ _ _ rfl mty_ii rfl HS.out.last _ (k : Int) true rfl HWO.out HK.out HY.out ?_)
                | fail)
              refine wp_region_seq ((0, true) :: (1, true) :: (2, true) :: (3, true) :: (4, true) :: (5, true) :: (6, true) :: (7, false) :: (8, true) :: (9, true) :: []) (by kernel_rfl) (by kernel_rfl) (by kernel_rfl) (by decide) (fun _ _ _ _ _ h => h) (fun hHeld => ?_)
              repeat (first
                | (refine seq_take (v := ?_) rfl ?_ ?_ ?_; rotate_left 1; rfl; (focus (intro wS hSw; have hk := below_rule hSw; go_simp; first | done | with_reducible rfl)); (try simp only [Act.put, List.setIfInBounds_toArray, List.set_cons_zero, List.set_cons_succ]))
                | (refine seq_skip rfl ?_ ?_; rfl; (try simp only [Act.put, List.setIfInBounds_toArray, List.set_cons_zero, List.set_cons_succ]))
                | (refine seq_run rfl (fun K hK => ?_); go_simp; (try (first | (go_at_call 12; refine (hbefore_any _ o d).mono ?_; rintro e w' ⟨rfl, hb'⟩))); (try go_wp2_with fail); refine hK.out _ _ ?_ ?_; (focus (first | exact below_step hHeld hb' | exact below_new hHeld _ | exact hHeld)); (try clear hb'); clear hHeld hK K; intro hHeld; (try simp only [Act.put, List.setIfInBounds_toArray, List.set_cons_zero, List.set_cons_succ])))
              first | refine seq_done ?_ | skip
              have hHD := hHeld
              replace HS := Lib.hid (HS.out.later hHD)
              replace HXD := Lib.hid (HXD.out.later hHD)
              clear hHD hHeld g0 g1 g2 g3 g4 g5 g6 g7 g8 g9 g10
              obtain ⟨g0, g1, g2, g3, g4, g5, g6, g7, g8, g9, g10⟩ := HXD.out
              go_wp2_with fail
              refine wp_region_seqS ((fun w' => w'.cell? ⟨B, 0, none⟩ = some (i64 d.who) ∧ w'.cell? ⟨B, 5, none⟩ = some (i64 d.fr))) ((0, true) :: (1, true) :: (2, true) :: (3, true) :: (4, true) :: (5, true) :: (6, true) :: (7, false) :: []) (by kernel_rfl) (by kernel_rfl) (by kernel_rfl) (by decide) (fun _ _ _ _ _ h => h) (⟨g0, g5⟩) ?_
              repeat (first | (refine seq_take (v := ?_) rfl ?_ ?_ ?_; rotate_left 1; rfl; (focus (intro wS hSw; obtain ⟨s0, s1⟩ := hSw; go_simp; first | done | with_reducible rfl)); (try simp only [Act.put, List.setIfInBounds_toArray, List.set_cons_zero, List.set_cons_succ])) | (refine seq_skip rfl ?_ ?_; rfl; (try simp only [Act.put, List.setIfInBounds_toArray, List.set_cons_zero, List.set_cons_succ])))
              refine seq_run rfl (fun K hK => ?_)
              refine step_im_put (t' := 0) rfl _ _ _ _ rfl mty_ii rfl HS.out.last.drew (by unfold maxLen; omega) d.who (i : Int) rfl rfl HWO.out (wf_i64 (by omega) (by omega)) ?_
              intro w7 hM7 hG7
              have HR7 : Hid (RS w w7 (i + 1) (2 * (i + 1)) (lastF l (i + 1)) (lastM l (i + 1)) (movM l (i + 1))) := (RS.put (HS.out.later (Below.refl _ _).drew) hG7 hM7).as (fun k => (last_put HD.out k).1) (fun k => (last_put HD.out k).2) (fun _ => rfl) (by omega)
              have hnb := AtBd.kept (HXD.out.later (Below.refl _ _).drew) hG7 (fun hh => by have := Option.some.inj hh; omega)
              refine hK.out _ _ ⟨hnb.c0, hnb.c5⟩ (fun _ => ?_)
              simp only [Act.put]
              clear hK K
              refine seq_done ?_
              clear hG7 hM7 hnb
              go_wp2_with fail
              go_roundw
              case rel => exact ⟨i + 1, by omega, congrArg (Value.int .i64) (prevFr_succ HD.out).symm, by go_num, HP.out.next HD.out HRO.out, HR7⟩
              case measure => first | omega | (simp [intOf]; done) | (simp [intOf]; omega)
        case pos =>
          have e3 : decide (0 ≤ d.till) = true := decide_eq_true hov
          by_cases htf : d.till ≤ d.fr
          case pos =>
            obtain rfl : b = false := not_all HBB.out HD.out hil (fun h => by have := h.till hov; omega)
            go_wp2_with fail
            go_ret
            exact ⟨rfl, HR4.out.below⟩
          have HT : Hid (rTill d) := fun _ => by omega
          cases hy2 : movM l i d.till
          case true =>
            obtain rfl : b = false := not_all HBB.out HD.out hil (fun h => till_known hov hy2 h.moves)
            have HY2 : Hid (putM (movM l i) d.fr d.till = true) := by unfold putM; rw [hy2, Bool.or_true]; exact Lib.hid rfl
            clear hy2
            go_wp2_with fail
            refine (fresh_any _ d.till _ _ _ _ true HR4.out.box HR4.out.mov (by omega) HWT.out HY2.out).mono ?_
            rintro e w5 ⟨rfl, hS, hK⟩
            have HR5 := Lib.hid (HR4.out.keep hK hS)
            clear hS hK
            go_wp2_with fail
            go_ret
            exact ⟨rfl, HR5.out.below⟩
          case false =>
            have HTF := Lib.hid (till_fresh hov hy2)
            have HMV : Hid (rMoves l i d) := fun k o hk ho => ⟨HFF.out k o hk ho, fun _ => HTF.out k o hk ho⟩
            have HY2 : Hid (putM (movM l i) d.fr d.till = false) := by unfold putM; rw [hy2, Bool.or_false, decide_eq_false (by omega)]; exact Lib.hid rfl
            clear hy2
            go_wp2_with fail
            refine (fresh_any _ d.till _ _ _ _ false HR4.out.box HR4.out.mov (by omega) HWT.out HY2.out).mono ?_
            rintro e w5 ⟨rfl, hS, hK⟩
            have HR5 := Lib.hid (HR4.out.keep hK hS)
            have HX5 := Lib.hid (HX4.out.keep hK (fun hh => by have : B = w.heap.size + 1 := hh; omega))
            clear hS hK HR4 HX4
            have HS : Hid (RS w w5 i (2 * i + 2) (lastF l i) (lastM l i) (movM l (i + 1))) := HR5.out.as (fun _ => rfl) (fun _ => rfl) (mov_two HD.out hov) (by omega)
            have HXD := HX5
            clear g0 g1 g2 g3 g4 g5 g6 g7 g8 g9 g10 HX5 HR5
            obtain ⟨g0, g1, g2, g3, g4, g5, g6, g7, g8, g9, g10⟩ := HXD.out
            cases hy : lastM l i d.who
            case false =>
              have HRO : Hid (ROk l i d) := ⟨HCO.out, rFrom_of HP.out hll HLT.out, HT.out, HMV.out, rOwn_none hy⟩
              have HY := Lib.hid hy
              clear hy
              go_wp2_with (first
                | (at_lookup; refine list_im_look_ok rfl _ _ _ rfl mty_ii rfl HS.out.last _ (lastF l i d.who) false rfl HWO.out rfl HY.out ?_)
                | fail)
              refine wp_region_seq ((0, true) :: (1, true) :: (2, true) :: (3, true) :: (4, true) :: (5, true) :: (6, true) :: (7, false) :: (8, true) :: (9, true) :: []) (by kernel_rfl) (by kernel_rfl) (by kernel_rfl) (by decide) (fun _ _ _ _ _ h => h) (fun hHeld => ?_)
              repeat (first
                | (refine seq_take (v := ?_) rfl ?_ ?_ ?_; rotate_left 1; rfl; (focus (intro wS hSw; have hk := below_rule hSw; go_simp; first | done | with_reducible rfl)); (try simp only [Act.put, List.setIfInBounds_toArray, List.set_cons_zero, List.set_cons_succ]))
                | (refine seq_skip rfl ?_ ?_; rfl; (try simp only [Act.put, List.setIfInBounds_toArray, List.set_cons_zero, List.set_cons_succ]))
                | (refine seq_run rfl (fun K hK => ?_); go_simp; (try skip); (try go_wp2_with fail); refine hK.out _ _ ?_ ?_; (focus (first | exact below_step hHeld hb' | exact below_new hHeld _ | exact hHeld)); (try clear hb'); clear hHeld hK K; intro hHeld; (try simp only [Act.put, List.setIfInBounds_toArray, List.set_cons_zero, List.set_cons_succ])))
              first | refine seq_done ?_ | skip
              have hHD := hHeld
              replace HS := Lib.hid (HS.out.later hHD)
              replace HXD := Lib.hid (HXD.out.later hHD)
              clear hHD hHeld g0 g1 g2 g3 g4 g5 g6 g7 g8 g9 g10
              obtain ⟨g0, g1, g2, g3, g4, g5, g6, g7, g8, g9, g10⟩ := HXD.out
              go_wp2_with fail
              refine wp_region_seqS ((fun w' => w'.cell? ⟨B, 0, none⟩ = some (i64 d.who) ∧ w'.cell? ⟨B, 5, none⟩ = some (i64 d.fr))) ((0, true) :: (1, true) :: (2, true) :: (3, true) :: (4, true) :: (5, true) :: (6, true) :: (7, false) :: []) (by kernel_rfl) (by kernel_rfl) (by kernel_rfl) (by decide) (fun _ _ _ _ _ h => h) (⟨g0, g5⟩) ?_
              repeat (first | (refine seq_take (v := ?_) rfl ?_ ?_ ?_; rotate_left 1; rfl; (focus (intro wS hSw; obtain ⟨s0, s1⟩ := hSw; go_simp; first | done | with_reducible rfl)); (try simp only [Act.put, List.setIfInBounds_toArray, List.set_cons_zero, List.set_cons_succ])) | (refine seq_skip rfl ?_ ?_; rfl; (try simp only [Act.put, List.setIfInBounds_toArray, List.set_cons_zero, List.set_cons_succ])))
              refine seq_run rfl (fun K hK => ?_)
              refine step_im_put (t' := 0) rfl _ _ _ _ rfl mty_ii rfl HS.out.last.drew (by unfold maxLen; omega) d.who (i : Int) rfl rfl HWO.out (wf_i64 (by omega) (by omega)) ?_
              intro w7 hM7 hG7
              have HR7 : Hid (RS w w7 (i + 1) (2 * (i + 1)) (lastF l (i + 1)) (lastM l (i + 1)) (movM l (i + 1))) := (RS.put (HS.out.later (Below.refl _ _).drew) hG7 hM7).as (fun k => (last_put HD.out k).1) (fun k => (last_put HD.out k).2) (fun _ => rfl) (by omega)
              have hnb := AtBd.kept (HXD.out.later (Below.refl _ _).drew) hG7 (fun hh => by have := Option.some.inj hh; omega)
              refine hK.out _ _ ⟨hnb.c0, hnb.c5⟩ (fun _ => ?_)
              simp only [Act.put]
              clear hK K
              refine seq_done ?_
              clear hG7 hM7 hnb
              go_wp2_with fail
              go_roundw
              case rel => exact ⟨i + 1, by omega, congrArg (Value.int .i64) (prevFr_succ HD.out).symm, by go_num, HP.out.next HD.out HRO.out, HR7⟩
              case measure => first | omega | (simp [intOf]; done) | (simp [intOf]; omega)
            case true =>
              obtain ⟨k, o, hk, hki, ho, hro⟩ := own_at_some hy hll
              have HRow := (HL.out.later HS.out.below (fun _ => htb)).2.2.2 k o ho
              obtain ⟨r0, r1, r2, r3, r4, r5, r6, r7, r8, r9, r10⟩ := HRow.1
              have HK := Lib.hid hk
              have HY := Lib.hid hy
              have hkl : k < len := by omega
              clear hk hy ho HRow
              by_cases hbf : dBef o d
              case neg =>
                have e2 : decide (dBef o d) = false := decide_eq_false hbf
                obtain rfl : b = false := not_all HBB.out HD.out hil (fun h => hbf (hro.1 h.own))
                clear hbf hro
                go_wp2_with (first
                  | (at_lookup; refine list_im_look_ok rfl _ _ _ rfl mty_ii rfl HS.out.last _ (k : Int) true rfl HWO.out HK.out HY.out ?_)
                  | fail)
                refine wp_region_seq ((0, true) :: (1, true) :: (2, true) :: (3, true) :: (4, true) :: (5, true) :: (6, true) :: (7, false) :: (8, true) :: (9, true) :: []) (by kernel_rfl) (by kernel_rfl) (by kernel_rfl) (by decide) (fun _ _ _ _ _ h => h) (fun hHeld => ?_)
                repeat (first
                  | (refine seq_take (v := ?_) rfl ?_ ?_ ?_; rotate_left 1; rfl; (focus (intro wS hSw; have hk := below_rule hSw; go_simp; first | done | with_reducible rfl)); (try simp only [Act.put, List.setIfInBounds_toArray, List.set_cons_zero, List.set_cons_succ]))
                  | (refine seq_skip rfl ?_ ?_; rfl; (try simp only [Act.put, List.setIfInBounds_toArray, List.set_cons_zero, List.set_cons_succ]))
                  | (refine seq_run rfl (fun K hK => ?_); go_simp; (try (first | (go_at_call 12; refine (hbefore_any _ o d).mono ?_; rintro e w' ⟨rfl, hb'⟩))); (try go_wp2_with fail); refine hK.out _ _ ?_ ?_; (focus (first | exact below_step hHeld hb' | exact below_new hHeld _ | exact hHeld)); (try clear hb'); clear hHeld hK K; intro hHeld; (try simp only [Act.put, List.setIfInBounds_toArray, List.set_cons_zero, List.set_cons_succ])))
                first | refine seq_done ?_ | skip
                have hHD := hHeld
                replace HS := Lib.hid (HS.out.later hHD)
                clear hHD hHeld
                go_wp2_with fail
                go_ret
                exact ⟨rfl, HS.out.below⟩
              case pos =>
                have e2 : decide (dBef o d) = true := decide_eq_true hbf
                have HRO : Hid (ROk l i d) := ⟨HCO.out, rFrom_of HP.out hll HLT.out, HT.out, HMV.out, hro.2 hbf⟩
                clear hbf hro
                go_wp2_with (first
                  | (at_lookup; refine list_im_look_ok rfl _ _ _ rfl mty_ii rfl HS.out.last _ (k : Int) true rfl HWO.out HK.out HY.out ?_)
                  | fail)
                refine wp_region_seq ((0, true) :: (1, true) :: (2, true) :: (3, true) :: (4, true) :: (5, true) :: (6, true) :: (7, false) :: (8, true) :: (9, true) :: []) (by kernel_rfl) (by kernel_rfl) (by kernel_rfl) (by decide) (fun _ _ _ _ _ h => h) (fun hHeld => ?_)
                repeat (first
                  | (refine seq_take (v := ?_) rfl ?_ ?_ ?_; rotate_left 1; rfl; (focus (intro wS hSw; have hk := below_rule hSw; go_simp; first | done | with_reducible rfl)); (try simp only [Act.put, List.setIfInBounds_toArray, List.set_cons_zero, List.set_cons_succ]))
                  | (refine seq_skip rfl ?_ ?_; rfl; (try simp only [Act.put, List.setIfInBounds_toArray, List.set_cons_zero, List.set_cons_succ]))
                  | (refine seq_run rfl (fun K hK => ?_); go_simp; (try (first | (go_at_call 12; refine (hbefore_any _ o d).mono ?_; rintro e w' ⟨rfl, hb'⟩))); (try go_wp2_with fail); refine hK.out _ _ ?_ ?_; (focus (first | exact below_step hHeld hb' | exact below_new hHeld _ | exact hHeld)); (try clear hb'); clear hHeld hK K; intro hHeld; (try simp only [Act.put, List.setIfInBounds_toArray, List.set_cons_zero, List.set_cons_succ])))
                first | refine seq_done ?_ | skip
                have hHD := hHeld
                replace HS := Lib.hid (HS.out.later hHD)
                replace HXD := Lib.hid (HXD.out.later hHD)
                clear hHD hHeld g0 g1 g2 g3 g4 g5 g6 g7 g8 g9 g10
                obtain ⟨g0, g1, g2, g3, g4, g5, g6, g7, g8, g9, g10⟩ := HXD.out
                go_wp2_with fail
                refine wp_region_seqS ((fun w' => w'.cell? ⟨B, 0, none⟩ = some (i64 d.who) ∧ w'.cell? ⟨B, 5, none⟩ = some (i64 d.fr))) ((0, true) :: (1, true) :: (2, true) :: (3, true) :: (4, true) :: (5, true) :: (6, true) :: (7, false) :: []) (by kernel_rfl) (by kernel_rfl) (by kernel_rfl) (by decide) (fun _ _ _ _ _ h => h) (⟨g0, g5⟩) ?_
                repeat (first | (refine seq_take (v := ?_) rfl ?_ ?_ ?_; rotate_left 1; rfl; (focus (intro wS hSw; obtain ⟨s0, s1⟩ := hSw; go_simp; first | done | with_reducible rfl)); (try simp only [Act.put, List.setIfInBounds_toArray, List.set_cons_zero, List.set_cons_succ])) | (refine seq_skip rfl ?_ ?_; rfl; (try simp only [Act.put, List.setIfInBounds_toArray, List.set_cons_zero, List.set_cons_succ])))
                refine seq_run rfl (fun K hK => ?_)
                refine step_im_put (t' := 0) rfl _ _ _ _ rfl mty_ii rfl HS.out.last.drew (by unfold maxLen; omega) d.who (i : Int) rfl rfl HWO.out (wf_i64 (by omega) (by omega)) ?_
                intro w7 hM7 hG7
                have HR7 : Hid (RS w w7 (i + 1) (2 * (i + 1)) (lastF l (i + 1)) (lastM l (i + 1)) (movM l (i + 1))) := (RS.put (HS.out.later (Below.refl _ _).drew) hG7 hM7).as (fun k => (last_put HD.out k).1) (fun k => (last_put HD.out k).2) (fun _ => rfl) (by omega)
                have hnb := AtBd.kept (HXD.out.later (Below.refl _ _).drew) hG7 (fun hh => by have := Option.some.inj hh; omega)
                refine hK.out _ _ ⟨hnb.c0, hnb.c5⟩ (fun _ => ?_)
                simp only [Act.put]
                clear hK K
                refine seq_done ?_
                clear hG7 hM7 hnb
                go_wp2_with fail
                go_roundw
                case rel => exact ⟨i + 1, by omega, congrArg (Value.int .i64) (prevFr_succ HD.out).symm, by go_num, HP.out.next HD.out HRO.out, HR7⟩
                case measure => first | omega | (simp [intOf]; done) | (simp [intOf]; omega)
    · obtain rfl : i = len := by omega
      have hnl : ¬ (i : Int) < (i : Int) := by omega
      obtain rfl : b = true := HBB.out.2 HP.out
      go_wp2_with fail
      go_ret
      exact ⟨rfl, HR.out.below⟩
end Go.Proofs.YtkadjpllappalaaGreat
