/-
  GetStarts answers true for all lists and numbers, and leaves all memory that was there as it was. No condition.
-/
import Derived.Test.YtoogdfjlodchhaaGetCells
import Derived.Deep.DeepCutAuto
namespace Go.Proofs.Ytoogdfjlodchhaa
open Go.RowKit
set_option linter.unusedVariables false

set_option maxRecDepth 100000 in
set_option maxHeartbeats 8000000 in
theorem walk_GetStarts (a0 : Int) (a1 : Int) (a2 : Option Addr) (len2 cap2 : Nat) (a3 : Bool) (a4 : Int) (a5 : Int) (w : World) (w0 : (Lit.int .i64 a0).wf = true) (w1 : (Lit.int .i64 a1).wf = true) (w2 : IsRows w [.inl .i64, .inl .i64, .inl .i64, .inl .i64, .inr true, .inl .u64] a2 len2 cap2) (w4 : (Lit.int .i64 a4).wf = true) (w5 : (Lit.int .i64 a5).wf = true) :
    Calls Try.prog 13 #[.int .i64 a0, .int .i64 a1, .slice a2 len2 cap2, .bool a3, .int .i64 a4, .int .i64 a5] w fun e w' => e = .returned (.bool true) ∧ Below w.heap.size w w' := by
  clear w0 w1 w4 w5
  rcases Nat.lt_or_ge 64 len2 with hbig | hs2
  · have hbig' : (64 : Int) < (len2 : Int) := by omega
    clear w2
    go_enter Try.func13, Try.ntmps13
    go_wp2_with fail
    refine (head11_any _).mono ?_
    rintro e w1 ⟨rfl, hb1⟩
    go_wp2_with fail
    go_ret
    exact ⟨rfl, hb1⟩
  have p2 : decide ((64 : Int) < (len2 : Int)) = false := decide_eq_false (by omega)
  obtain ⟨tb, off, X, hX⟩ := rows_things w2
  have HX : Hid (IsThs w a2 len2 cap2 tb off X) := hX
  clear w2 hX
  go_enter Try.func13, Try.ntmps13
  go_wp2_with fail
  refine (head11_any _).mono ?_
  rintro e w1 ⟨rfl, hb1⟩
  go_wp2_with fail
  refine (conf2_any _ _ _).mono ?_
  rintro e w2 ⟨t, s, rfl, t1, t2, s1, s2, hb2⟩
  have ht0 : (t == 0) = false := by simp; omega
  have hB2 := Lib.hid (below_step hb1 hb2)
  clear hb1 hb2
  obtain ⟨N, hNe, hlay, hN1, hN2⟩ := lay44 t1 t2 s1 s2
  have hn0 : ¬ N = 0 := by omega
  clear hNe
  go_wp2_with fail
  have hA := AtC.made w2 t s 0 0
  have hB3 := below_new (Below.refl w2.heap.size w2) (.cells #[.int .i64 t, .int .i64 s, .int .i64 0, .int .i64 0] 29)
  have hs3 : w2.heap.size < (w2.alloc (.cells #[.int .i64 t, .int .i64 s, .int .i64 0, .int .i64 0] 29)).heap.size := by simp
  have HA := Lib.hid hA
  have HB := Lib.hid (below_step hB2.out hB3)
  have Hs := Lib.hid hs3
  clear hA hB3 hs3 hB2
  generalize w2.alloc (.cells #[.int .i64 t, .int .i64 s, .int .i64 0, .int .i64 0] 29) = W at HA HB Hs ⊢
  generalize w2.heap.size = cb at HA Hs ⊢
  clear w2 w1
  obtain ⟨M, hM⟩ : ∃ M : Nat, 2 * (N : Int) + 2 * t = (M : Int) := ⟨(2 * (N : Int) + 2 * t).toNat, by omega⟩
  have HM := Lib.hid hM
  clear hM
  refine (things_any W.heap.size t s 0 0 N M HM.out a2 len2 cap2 tb off X _ hlay (Nat.le_refl _) (HX.out.later HB.out (fun i hi => (HX.out i hi).2.2.1))).mono ?_
  rintro r w3 ⟨p, c, v0, rfl, hM3, hb3, hf3⟩
  have HH0 : Hid (Hold W w3 [tMem W.heap.size p c v0 (thC X N (List.replicate M 0) (min N len2)) (thL X N (List.replicate M 0) (min N len2))]) := (Hold.nil (Below.refl _ _)).more hb3 (tMem_ok _ _ _ _ _ _) hM3 hf3
  clear hM3 hb3 hf3
  obtain ⟨q0, q1, q2, q3⟩ := HA.out.later HH0.out.below Hs.out
  go_wp2_with fail
  refine (things_any W.heap.size t s 0 0 N M HM.out a2 len2 cap2 tb off X _ hlay HH0.out.size (HX.out.later (below_step' HB.out HH0.out.below HB.out.size) (fun i hi => (HX.out i hi).2.2.1))).mono ?_
  rintro r w4 ⟨p', c', v0', rfl, hM4, hb4, hf4⟩
  have HH1 : Hid (Hold W w4 [tMem W.heap.size p c v0 (thC X N (List.replicate M 0) (min N len2)) (thL X N (List.replicate M 0) (min N len2)), tMem W.heap.size p' c' v0' (thC X N (List.replicate M 0) (min N len2)) (thL X N (List.replicate M 0) (min N len2))]) := Hold.more HH0.out hb4 (tMem_ok _ _ _ _ _ _) hM4 hf4
  clear hM4 hb4 hf4 HH0 q0 q1 q2 q3 HX
  obtain ⟨C0, hC0⟩ : ∃ C0, thC X N (List.replicate M 0) (min N len2) = C0 := ⟨_, rfl⟩
  obtain ⟨L0, hL0⟩ : ∃ L0, thL X N (List.replicate M 0) (min N len2) = L0 := ⟨_, rfl⟩
  have HCL : Hid ((C0.length : Int) = 2 * N + 2 * t) := by show _ = _; rw [← hC0, thC_len, List.length_replicate]; exact HM.out.symm
  have HLL : Hid (L0.length ≤ 100 + 0) := by show _ ≤ _; rw [← hL0, thL_len]; omega
  rw [hC0, hL0] at HH1
  have HC0F := Lib.hid (take_fit (Hold.first HH1.out).fit N)
  clear hC0 hL0
  obtain ⟨q0, q1, q2, q3⟩ := HA.out.later HH1.out.below Hs.out
  obtain ⟨ee, hee, hee2⟩ : ∃ e : Int, (if a3 then (1 : Int) else 0) = e ∧ (e = 0 ∨ e = 1) := ⟨_, rfl, by cases a3 <;> simp⟩
  have Hee := Lib.hid hee
  clear hee
  go_wp2_with fail
  refine wp_region_seqS ((fun w' => AtC w' cb t s 0 0)) ((0, true) :: (1, true) :: (3, true) :: (2, false) :: (4, false) :: (5, true) :: []) (by kernel_rfl) (by kernel_rfl) (by kernel_rfl) (by decide) (fun _ _ _ _ _ h => h) ((HA.out.later (Hold.below (Hold.drew HH1.out)) Hs.out)) ?_
  replace HH1 := Lib.hid (Hold.drew HH1.out)
  clear q0 q1 q2 q3
  repeat (first | (refine seq_take (v := ?_) rfl ?_ ?_ ?_; rotate_left 1; rfl; (focus (intro wS hSw; obtain ⟨k0, k1, k2, k3⟩ := hSw; go_simp; first | done | with_reducible rfl)); (try simp only [Act.put, List.setIfInBounds_toArray, List.set_cons_zero, List.set_cons_succ])) | (refine seq_skip rfl ?_ ?_; rfl; (try simp only [Act.put, List.setIfInBounds_toArray, List.set_cons_zero, List.set_cons_succ])))
  refine seq_run rfl (fun K hK => ?_)
  go_simp
  go_at_call 57
  refine (end_at a3 ee _ Hee.out).mono ?_
  rintro r w5 ⟨rfl, hb5⟩
  (try go_wp2_with fail)
  replace HH1 := Lib.hid (Hold.later HH1.out hb5)
  clear hb5
  refine hK.out _ _ ((HA.out.later (Hold.below HH1.out) Hs.out)) (fun _ => ?_)
  (try simp only [Act.put, List.setIfInBounds_toArray, List.set_cons_zero, List.set_cons_succ])
  clear hK K
  repeat (first | (refine seq_take (v := ?_) rfl ?_ ?_ ?_; rotate_left 1; rfl; (focus (intro wS hSw; obtain ⟨k0, k1, k2, k3⟩ := hSw; go_simp; first | done | with_reducible rfl)); (try simp only [Act.put, List.setIfInBounds_toArray, List.set_cons_zero, List.set_cons_succ])) | (refine seq_skip rfl ?_ ?_; rfl; (try simp only [Act.put, List.setIfInBounds_toArray, List.set_cons_zero, List.set_cons_succ])))
  refine seq_run rfl (fun K hK => ?_)
  go_simp
  go_at_call 56
  refine (genew_any W.heap.size _ N t s 0 0 0 ee a4 hlay (Hold.size HH1.out)).mono ?_
  rintro r w6 ⟨b, bs, gs, rfl, hS6, hb6, hbb6⟩
  (try go_wp2_with fail)
  have HH2 : Hid (GeH W w6 p c C0 L0 b (ge0 t s 0 0 0 ee a4 N) [tMem W.heap.size p' c' v0' C0 L0]) := GeH.begun2 HH1.out hb6 hS6 hbb6
  clear hS6 hb6 hbb6 HH1
  refine hK.out _ _ ((HA.out.later HH2.out.below Hs.out)) (fun _ => ?_)
  (try simp only [Act.put, List.setIfInBounds_toArray, List.set_cons_zero, List.set_cons_succ])
  clear hK K
  repeat (first | (refine seq_take (v := ?_) rfl ?_ ?_ ?_; rotate_left 1; rfl; (focus (intro wS hSw; obtain ⟨k0, k1, k2, k3⟩ := hSw; go_simp; first | done | with_reducible rfl)); (try simp only [Act.put, List.setIfInBounds_toArray, List.set_cons_zero, List.set_cons_succ])) | (refine seq_skip rfl ?_ ?_; rfl; (try simp only [Act.put, List.setIfInBounds_toArray, List.set_cons_zero, List.set_cons_succ])))
  refine seq_done ?_
  obtain ⟨q0, q1, q2, q3⟩ := HA.out.later HH2.out.below Hs.out
  have hwt : IntKind.i64.wrap (t - 1) = t - 1 := IntWalk.i64_in _ (by omega)
  go_wp2_with fail
  refine wp_region_seqS ((fun w' => AtC w' cb t s 0 0)) ((0, true) :: (1, true) :: (2, true) :: (3, true) :: (4, true) :: (6, true) :: (5, false) :: (7, false) :: (8, true) :: []) (by kernel_rfl) (by kernel_rfl) (by kernel_rfl) (by decide) (fun _ _ _ _ _ h => h) ((HA.out.later HH2.out.drew.below Hs.out)) ?_
  replace HH2 := Lib.hid HH2.out.drew
  clear q0 q1 q2 q3
  repeat (first | (refine seq_take (v := ?_) rfl ?_ ?_ ?_; rotate_left 1; rfl; (focus (intro wS hSw; obtain ⟨k0, k1, k2, k3⟩ := hSw; go_simp; first | done | with_reducible rfl)); (try simp only [Act.put, List.setIfInBounds_toArray, List.set_cons_zero, List.set_cons_succ])) | (refine seq_skip rfl ?_ ?_; rfl; (try simp only [Act.put, List.setIfInBounds_toArray, List.set_cons_zero, List.set_cons_succ])))
  refine seq_run rfl (fun K hK => ?_)
  go_simp
  go_at_call 57
  refine (end_at a3 ee _ Hee.out).mono ?_
  rintro r w7 ⟨rfl, hb7⟩
  (try go_wp2_with fail)
  replace HH2 := Lib.hid (HH2.out.later hb7)
  clear hb7
  refine hK.out _ _ ((HA.out.later HH2.out.below Hs.out)) (fun _ => ?_)
  (try simp only [Act.put, List.setIfInBounds_toArray, List.set_cons_zero, List.set_cons_succ])
  clear hK K
  repeat (first | (refine seq_take (v := ?_) rfl ?_ ?_ ?_; rotate_left 1; rfl; (focus (intro wS hSw; obtain ⟨k0, k1, k2, k3⟩ := hSw; go_simp; first | done | with_reducible rfl)); (try simp only [Act.put, List.setIfInBounds_toArray, List.set_cons_zero, List.set_cons_succ])) | (refine seq_skip rfl ?_ ?_; rfl; (try simp only [Act.put, List.setIfInBounds_toArray, List.set_cons_zero, List.set_cons_succ])))
  refine seq_run rfl (fun K hK => ?_)
  go_simp
  go_at_call 56
  (try rw [hwt])
  refine (genew_any W.heap.size _ N t s 0 0 (t - 1) ee a5 hlay HH2.out.size).mono ?_
  rintro r w8 ⟨b', bs', gs', rfl, hS8, hb8, hbb8⟩
  (try go_wp2_with fail)
  have HH3 : Hid (GeH2 W w8 p c C0 L0 b (ge0 t s 0 0 0 ee a4 N) p' c' C0 L0 b' (ge0 t s 0 0 (t - 1) ee a5 N)) := by
    obtain ⟨v1, bs1, gs1, bt1, hh⟩ := HH2.out
    exact ⟨v1, bs1, gs1, bt1, v0', bs', gs', none, Hold.more hh hb8 (tGe_ok _ _ _ _ _ _) hS8 hbb8⟩
  clear hS8 hb8 hbb8 HH2
  refine hK.out _ _ ((HA.out.later HH3.out.below Hs.out)) (fun _ => ?_)
  (try simp only [Act.put, List.setIfInBounds_toArray, List.set_cons_zero, List.set_cons_succ])
  clear hK K
  repeat (first | (refine seq_take (v := ?_) rfl ?_ ?_ ?_; rotate_left 1; rfl; (focus (intro wS hSw; obtain ⟨k0, k1, k2, k3⟩ := hSw; go_simp; first | done | with_reducible rfl)); (try simp only [Act.put, List.setIfInBounds_toArray, List.set_cons_zero, List.set_cons_succ])) | (refine seq_skip rfl ?_ ?_; rfl; (try simp only [Act.put, List.setIfInBounds_toArray, List.set_cons_zero, List.set_cons_succ])))
  refine seq_done ?_
  obtain ⟨hz, hhz⟩ : ∃ hz : Nat, (hz : Int) = 2 * N := ⟨2 * N, by omega⟩
  obtain ⟨hy, hhy⟩ : ∃ hy : Nat, (hy : Int) = 2 * N + (t - 1) := ⟨(2 * N + (t - 1)).toNat, by omega⟩
  have HG1 : Hid (GX (ge0 t s 0 0 0 ee a4 N) C0 C0 N hz 0 ee) := GX.start hlay HCL.out (by omega) (by omega) (by omega) hee2
  have HG2 : Hid (GX (ge0 t s 0 0 (t - 1) ee a5 N) C0 C0 N hy 0 ee) := GX.start hlay HCL.out hhy (by omega) (by omega) hee2
  have HZ1 : Hid (N ≤ hz) := by show _ ≤ _; omega
  have HZ2 : Hid (N ≤ hy) := by show _ ≤ _; omega
  clear hwt hhz hhy
  go_wp2_with fail
  go_loopw [18] (fun i wr => ∃ (n : Nat) (k : Ge) (C : List Int) (L : List Ev) (k' : Ge) (C' : List Int) (L' : List Ev), n ≤ 2 * N + 5 ∧ i = .int .i64 n ∧ Hid (GeH2 W wr p c C L b k p' c' C' L' b' k') ∧ Hid (GX k C C0 N hz n ee) ∧ Hid (GX k' C' C0 N hy n ee) ∧ Hid (L.length ≤ 100 + n ∧ L'.length ≤ 100 + n)) (fun i _ => 100 - (intOf i).toNat)
  case atStart => exact ⟨0, _, _, _, _, _, _, by omega, rfl, HH3, HG1, HG2, ⟨HLL.out, HLL.out⟩⟩
  case round =>
    clear HH3 HG1 HG2
    obtain ⟨n, k, C, L, k', C', L', hn, rfl, HH, HG, HG', HL⟩ := hrel
    obtain ⟨q0, q1, q2, q3⟩ := HA.out.later HH.out.below Hs.out
    go_wp2_with fail
    refine (gealone_any _ N t s 0 0 hlay (by omega)).mono ?_
    rintro r w9 ⟨rfl, hb9⟩
    replace HH := Lib.hid (HH.out.later hb9)
    clear hb9 q0 q1 q2 q3
    rcases Nat.lt_or_ge n (2 * N + 5) with hlt | hge
    · have hlt' : (n : Int) < 2 * (N : Int) + 5 := by omega
      have HF := Lib.hid HH.out.fit
      have HF' := Lib.hid HH.out.swap.fit
      go_wp2_with fail
      refine (HH.out.call HG.out.ok (by have := HL.out.1; omega)).mono ?_
      rintro r wr3 ⟨z, hz3, rfl, hH⟩
      have HG3 := Lib.hid (HG.out.step hz3 HF.out)
      have HH3 := Lib.hid hH.swap
      have HL3 := Lib.hid (Ge.ev_le k N hz C)
      clear hH hz3 HG HH HF
      go_wp2_with fail
      refine (HH3.out.call HG'.out.ok (by have := HL.out.2; omega)).mono ?_
      rintro r wr4 ⟨z', hz4, rfl, hH⟩
      have HG4 := Lib.hid (HG'.out.step hz4 HF'.out)
      have HH4 := Lib.hid hH.swap
      have HL4 := Lib.hid (Ge.ev_le k' N hy C')
      clear hH hz4 HG' HH3 HF'
      go_wp2_with fail
      go_roundw
      case rel => exact ⟨n + 1, _, _, _, _, _, _, by omega, by go_num, HH4, HG3, HG4, by have := HL.out; have := HL3.out; have := HL4.out; show _ ∧ _; rw [List.length_append, List.length_append]; omega⟩
      case measure => first | omega | (simp [intOf]; done) | (simp [intOf]; omega)
    · have hge' : ¬ (n : Int) < 2 * (N : Int) + 5 := by omega
      obtain ⟨v, hm⟩ := HH.out.mem
      obtain ⟨v', hm'⟩ := HH.out.swap.mem
      obtain ⟨ws, hws⟩ : ∃ ws, C.take N = ws := ⟨_, rfl⟩
      have HWF := Lib.hid (hws ▸ take_fit hm.fit N)
      have Hwl : Hid (ws.length = N) := by show _ = _; rw [← hws, List.length_take, HG.out.len]; have := HCL.out; omega
      have HC1 : Hid (N ≤ C.length) := by show _ ≤ _; rw [HG.out.len]; have := HCL.out; omega
      have HC2 : Hid (N ≤ C'.length) := by show _ ≤ _; rw [HG'.out.len]; have := HCL.out; omega
      obtain ⟨hw1, ph, val, hph, hph', hval, hval', hne, hta, hta'⟩ : C'.take N = ws ∧ ∃ ph val : Int, k.ph = ph ∧ k'.ph = ph ∧ k.val = val ∧ k'.val = val ∧ ph ≠ 0 ∧ (k.ph = 1 → k.ta ≠ none) ∧ (k'.ph = 1 → k'.ta ≠ none) := by
        have hu := fun z z' h h' => end_unique (e := ee) (z := z) (z' := z') HC0F.out (by rw [List.length_take]; have := HCL.out; omega) h h'
        rcases HG.out.done hge with ⟨d1, d2, d3, d4, d5⟩ | ⟨j, d1, d2, d3, d4, d5, d6, d7⟩ <;> rcases HG'.out.done hge with ⟨f1, f2, f3, f4, f5⟩ | ⟨i, f1, f2, f3, f4, f5, f6, f7⟩
        · exact ⟨by rw [f4, ← hws, d4], 2, 0, d1, f1, d2, f2, by decide, fun h => by omega, fun h => by omega⟩
        · have := hu _ _ d3 f3
          omega
        · have := hu _ _ d3 f3
          omega
        · obtain rfl : j = i := by have := hu _ _ d3 f3; omega
          exact ⟨by rw [f6, ← hws, d6, done_words HZ1.out, done_words HZ2.out], 1, _, d1, f1, d4, f4, by decide, fun _ => d5, fun _ => f5⟩
      have Hws := Lib.hid hws
      have Hws' := Lib.hid hw1
      have HP := Lib.hid hph
      have HP' := Lib.hid hph'
      have HV := Lib.hid hval
      have HV' := Lib.hid hval'
      have HT := Lib.hid hta
      have HT' := Lib.hid hta'
      have HM1 := Lib.hid hm
      have HM2 := Lib.hid hm'
      have hnb : (ph != 0) = true := by simpa using hne
      clear hws hw1 hph hph' hval hval' hta hta' hm hm' hne HG HG' HL
      obtain ⟨q0, q1, q2, q3⟩ := HA.out.later HH.out.below Hs.out
      go_wp2_with fail
      refine (words_at W.heap.size t s 0 0 N p c v C ws L _ hlay HM1.out HC1.out Hws.out Hwl.out).mono ?_
      rintro r w10 ⟨g, cap, rfl, hcap, hg1, hg2, hrow, hWW, hb10⟩
      have HW1 := Lib.hid hWW
      replace HH := Lib.hid (HH.out.later hb10)
      replace HM2 := Lib.hid (HM2.out.later hb10)
      clear hb10 hrow q0 q1 q2 q3 hg1 hg2 hWW
      obtain ⟨q0, q1, q2, q3⟩ := HA.out.later HH.out.below Hs.out
      go_wp2_with fail
      refine (words_at W.heap.size t s 0 0 N p' c' v' C' ws L' _ hlay HM2.out HC2.out Hws'.out Hwl.out).mono ?_
      rintro r w11 ⟨g', cap', rfl, hcap', hg1, hg2, hrow, hWW, hb11⟩
      have HW2 := Lib.hid hWW
      replace HW1 := Lib.hid (HW1.out.later hb11)
      replace HH := Lib.hid (HH.out.later hb11)
      clear hb11 hrow q0 q1 q2 q3 hg1 hg2 hWW HM1 HM2 HC1 HC2
      go_wp2_with fail
      go_loopw [69] (fun i wr => ∃ e : Nat, e ≤ N ∧ i = .int .i64 e ∧ Hid (Below w11.heap.size w11 wr)) (fun i _ => N - (intOf i).toNat)
      case atStart => exact ⟨0, by omega, rfl, Below.refl _ _⟩
      case round =>
        obtain ⟨e, he, rfl, HB5⟩ := hrel
        rcases Nat.lt_or_ge e N with heN | heN
        · have heN' : (e : Int) < (N : Int) := by omega
          have x0 := ((HW1.out.later HB5.out).has (by have := Hwl.out; omega))
          have y0 := ((HW2.out.later HB5.out).has (by have := Hwl.out; omega))
          obtain ⟨_, _, hq1, hx⟩ := x0
          cases hq1
          obtain ⟨_, _, hq2, hy'⟩ := y0
          cases hq2
          replace hx := hx e (by have := Hwl.out; omega)
          replace hy' := hy' e (by have := Hwl.out; omega)
          generalize ws.getD e 0 = x at hx hy'
          rw [Nat.zero_add] at hx hy'
          have hbb : Hid (Below w11.heap.size w11 wr.drew) := HB5.out.drew
          go_wp2_with fail
          refine wp_region_seqS ((fun w' => w'.cell? ⟨g, e, none⟩ = some (u64 x) ∧ w'.cell? ⟨g', e, none⟩ = some (u64 x))) ((0, true) :: (1, true) :: (2, true) :: (3, true) :: (4, true) :: (5, true) :: (6, true) :: (7, true) :: (8, true) :: []) (by kernel_rfl) (by kernel_rfl) (by kernel_rfl) (by decide) (fun _ _ _ _ _ h => h) ((And.intro (below_rule (Below.refl wr.heap.size wr).drew _ (by rw [hx]; rfl) |>.trans hx) (below_rule (Below.refl wr.heap.size wr).drew _ (by rw [hy']; rfl) |>.trans hy'))) ?_
          repeat (first | (refine seq_take (v := ?_) rfl ?_ ?_ ?_; rotate_left 1; rfl; (focus (intro wS hSw; obtain ⟨k0, k1⟩ := hSw; go_simp; first | done | with_reducible rfl)); (try simp only [Act.put, List.setIfInBounds_toArray, List.set_cons_zero, List.set_cons_succ])) | (refine seq_skip rfl ?_ ?_; rfl; (try simp only [Act.put, List.setIfInBounds_toArray, List.set_cons_zero, List.set_cons_succ])))
          refine seq_done ?_
          have hxx : (x != x) = false := by simp
          go_wp2_with fail
          go_roundw
          case rel => exact ⟨e + 1, by omega, by go_num, hbb⟩
          case measure => first | omega | (simp [intOf]; done) | (simp [intOf]; omega)
        · have heN' : ¬ (e : Int) < (N : Int) := by omega
          replace HH := Lib.hid (HH.out.later HB5.out)
          go_wp2_with fail
          refine (HH.out.phase ph HP.out).mono ?_
          rintro r w12 ⟨rfl, hb⟩
          replace HH := Lib.hid (HH.out.later hb)
          clear hb
          go_wp2_with fail
          refine (HH.out.swap.phase ph HP'.out).mono ?_
          rintro r w13 ⟨rfl, hb⟩
          replace HH := Lib.hid (HH.out.later hb)
          clear hb
          go_wp2_with fail
          refine (HH.out.phase ph HP.out).mono ?_
          rintro r w14 ⟨rfl, hb⟩
          replace HH := Lib.hid (HH.out.later hb)
          clear hb
          go_wp2_with fail
          refine (HH.out.value val HV.out HT.out).mono ?_
          rintro r w15 ⟨rfl, hb⟩
          replace HH := Lib.hid (HH.out.later hb)
          clear hb
          go_wp2_with fail
          refine (HH.out.swap.value val HV'.out HT'.out).mono ?_
          rintro r w16 ⟨rfl, hb⟩
          replace HH := Lib.hid (HH.out.later hb)
          clear hb
          go_wp2_with fail
          go_ret
          exact ⟨rfl, below_step' HB.out HH.out.below HB.out.size⟩

end Go.Proofs.Ytoogdfjlodchhaa
