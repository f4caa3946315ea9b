/-
  TaskRests answers true for all lists and numbers, and leaves all memory that was there as it was. No condition.
-/
import Derived.Test.YtemaghebpnjmoaaTaskOne
namespace Go.Proofs.Ytemaghebpnjmoaa
open Go.RowKit
set_option linter.unusedVariables false

/-- A reply that is kept. -/
structure AtR (w : World) (rb : Nat) (ok : Bool) (v lo hi : Int) : Prop where
  c0 : w.cell? ⟨rb, 0, none⟩ = some (.bool ok)
  c1 : w.cell? ⟨rb, 1, none⟩ = some (.int .u64 v)
  c2 : w.cell? ⟨rb, 2, none⟩ = some (.int .i64 lo)
  c3 : w.cell? ⟨rb, 3, none⟩ = some (.int .i64 hi)
theorem AtR.of {W w : World} {p c b rb : Nat} {C : List Int} {L : List Ev} {T : Wk} {kd e x s : Int} {ok : Bool} {v lo hi : Int} (h : TsH W w p c C L b kd e x s T [tObj W.heap.size rb [.bool ok, .int .u64 v, .int .i64 lo, .int .i64 hi]]) : AtR w rb ok v lo hi := by
  have h1 : IsObj w rb [.bool ok, .int .u64 v, .int .i64 lo, .int .i64 hi] := (h.at 0 rfl).1
  exact ⟨h1.at' 0 _ rfl, h1.at' 1 _ rfl, h1.at' 2 _ rfl, h1.at' 3 _ rfl⟩
set_option maxRecDepth 100000 in
set_option maxHeartbeats 8000000 in
theorem walk_TaskRests (a0 : Int) (a1 : Int) (a2 : Int) (a3 : Option Addr) (len3 cap3 : Nat) (a4 : Bool) (a5 : Bool) (a6 : Int) (w : World) (w0 : (Lit.int .i64 a0).wf = true) (w1 : (Lit.int .i64 a1).wf = true) (w2 : (Lit.int .i64 a2).wf = true) (w3 : IsRows w [.inl .i64, .inl .i64, .inl .i64, .inl .i64, .inr true, .inl .u64] a3 len3 cap3) (w6 : (Lit.int .u64 a6).wf = true) :
    Calls Try.prog 6 #[.int .i64 a0, .int .i64 a1, .int .i64 a2, .slice a3 len3 cap3, .bool a4, .bool a5, .int .u64 a6] w fun e w' => e = .returned (.bool true) ∧ Below w.heap.size w w' := by
  have x6 := u64_wf w6
  clear w0 w1 w2 w6
  rcases Nat.lt_or_ge 64 len3 with hbig | hs3
  · have hbig' : (64 : Int) < (len3 : Int) := by omega
    clear w3
    go_enter Try.func6, Try.ntmps6
    go_wp2_with fail
    refine (head12_any _).mono ?_
    rintro e w1 ⟨rfl, hb1⟩
    go_wp2_with fail
    go_ret
    exact ⟨rfl, hb1⟩
  have p3 : decide ((64 : Int) < (len3 : Int)) = false := decide_eq_false (by omega)
  obtain ⟨tb, off, X, hX⟩ := rows_things w3
  have HX : Hid (IsThs w a3 len3 cap3 tb off X) := hX
  clear w3 hX
  go_enter Try.func6, Try.ntmps6
  go_wp2_with fail
  refine (head12_any _).mono ?_
  rintro e w1 ⟨rfl, hb1⟩
  go_wp2_with fail
  refine (conf4_any _ _ _ _ _).mono ?_
  rintro e w2 ⟨t, s, so, d, rfl, t1, t4, s1, s4, o0, o4, d0, d3, hb2⟩
  have hB2 := Lib.hid (below_step hb1 hb2)
  clear hb1 hb2
  obtain ⟨N, hNe, hlay, hN1, hN2⟩ := lay44 t1 t4 s1 s4
  clear hNe
  go_wp2_with fail
  have hA := AtC.made w2 t s so d
  have hB3 := below_new (Below.refl w2.heap.size w2) (.cells #[.int .i64 t, .int .i64 s, .int .i64 so, .int .i64 d] 32)
  have hs3 : w2.heap.size < (w2.alloc (.cells #[.int .i64 t, .int .i64 s, .int .i64 so, .int .i64 d] 32)).heap.size := by simp
  have HA := Lib.hid hA
  have HB := Lib.hid (below_step hB2.out hB3)
  have Hs := Lib.hid hs3
  clear hA hB3 hs3 hB2
  generalize w2.alloc (.cells #[.int .i64 t, .int .i64 s, .int .i64 so, .int .i64 d] 32) = W at HA HB Hs ⊢
  generalize w2.heap.size = cb at HA Hs ⊢
  clear w2 w1
  obtain ⟨M, hM⟩ : ∃ M : Nat, 2 * (N : Int) + 2 * t = (M : Int) := ⟨(2 * (N : Int) + 2 * t).toNat, by omega⟩
  have HM := Lib.hid hM
  clear hM
  refine (things_any W.heap.size t s so d N M HM.out a3 len3 cap3 tb off X _ hlay (Nat.le_refl _) (HX.out.later HB.out (fun i hi => (HX.out i hi).2.2.1))).mono ?_
  rintro r w3 ⟨p, c, v0, rfl, hM3, hb3, hf3⟩
  have HH1 : Hid (Hold W w3 [tMem W.heap.size p c v0 (thC X N (List.replicate M 0) (min N len3)) (thL X N (List.replicate M 0) (min N len3))]) := (Hold.nil (Below.refl _ _)).more hb3 (tMem_ok _ _ _ _ _ _) hM3 hf3
  clear hM3 hb3 hf3 HX
  obtain ⟨C0, hC0⟩ : ∃ C0, thC X N (List.replicate M 0) (min N len3) = C0 := ⟨_, rfl⟩
  obtain ⟨L0, hL0⟩ : ∃ L0, thL X N (List.replicate M 0) (min N len3) = L0 := ⟨_, rfl⟩
  have HCL : Hid ((C0.length : Int) = 2 * N + 2 * t) := by show _ = _; rw [← hC0, thC_len, List.length_replicate]; exact HM.out.symm
  have HLL : Hid (L0.length ≤ 100 + 0) := by show _ ≤ _; rw [← hL0, thL_len]; omega
  rw [hC0, hL0] at HH1
  clear hC0 hL0
  obtain ⟨q0, q1, q2, q3⟩ := HA.out.later HH1.out.below Hs.out
  obtain ⟨ee, hee, hee2⟩ : ∃ e : Int, kdI a5 = e ∧ (e = 0 ∨ e = 1) := ⟨_, rfl, by cases a5 <;> simp⟩
  obtain ⟨kk, hkk⟩ : ∃ e : Int, kdI a4 = e := ⟨_, rfl⟩
  have Hee := Lib.hid hee
  have Hkk := Lib.hid hkk
  clear hee hkk
  go_wp2_with fail
  refine wp_region_seqS ((fun w' => AtC w' cb t s so d)) ((0, true) :: (1, true) :: (2, true) :: (3, true) :: (4, false) :: (5, false) :: (6, true) :: []) (by kernel_rfl) (by kernel_rfl) (by kernel_rfl) (by decide) (fun _ _ _ _ _ h => h) ((HA.out.later HH1.out.drew.below Hs.out)) ?_
  replace HH1 := Lib.hid HH1.out.drew
  clear q0 q1 q2 q3
  repeat (first | (refine seq_take (v := ?_) rfl ?_ ?_ ?_; rotate_left 1; rfl; (focus (intro wS hSw; obtain ⟨k0, k1, k2, k3⟩ := hSw; go_simp; first | done | with_reducible rfl)); (try simp only [Act.put, List.setIfInBounds_toArray, List.set_cons_zero, List.set_cons_succ])) | (refine seq_skip rfl ?_ ?_; rfl; (try simp only [Act.put, List.setIfInBounds_toArray, List.set_cons_zero, List.set_cons_succ])))
  refine seq_run rfl (fun K hK => ?_)
  go_simp
  go_at_call 11
  refine (make_at a4 a5 a6 1 kk ee _ Hkk.out Hee.out).mono ?_
  rintro r w7 ⟨rfl, hb7⟩
  (try go_wp2_with fail)
  replace HH1 := Lib.hid (Hold.later HH1.out hb7)
  clear hb7
  refine hK.out _ _ ((HA.out.later HH1.out.below Hs.out)) (fun _ => ?_)
  (try simp only [Act.put, List.setIfInBounds_toArray, List.set_cons_zero, List.set_cons_succ])
  clear hK K
  repeat (first | (refine seq_take (v := ?_) rfl ?_ ?_ ?_; rotate_left 1; rfl; (focus (intro wS hSw; obtain ⟨k0, k1, k2, k3⟩ := hSw; go_simp; first | done | with_reducible rfl)); (try simp only [Act.put, List.setIfInBounds_toArray, List.set_cons_zero, List.set_cons_succ])) | (refine seq_skip rfl ?_ ?_; rfl; (try simp only [Act.put, List.setIfInBounds_toArray, List.set_cons_zero, List.set_cons_succ])))
  refine seq_run rfl (fun K hK => ?_)
  go_simp
  go_at_call 12
  refine (TsH.begun (who := 0) (m := 0) a4 Hkk.out HH1.out hlay (by decide) (by omega) (by omega) (by decide) (by have := hlay.n3; omega) hee2).mono ?_
  rintro r w8 ⟨b, rfl, hT8⟩
  (try go_wp2_with fail)
  have HH2 := Lib.hid hT8
  clear hT8 HH1
  refine hK.out _ _ ((HA.out.later HH2.out.below Hs.out)) (fun _ => ?_)
  (try simp only [Act.put, List.setIfInBounds_toArray, List.set_cons_zero, List.set_cons_succ])
  clear hK K
  repeat (first | (refine seq_take (v := ?_) rfl ?_ ?_ ?_; rotate_left 1; rfl; (focus (intro wS hSw; obtain ⟨k0, k1, k2, k3⟩ := hSw; go_simp; first | done | with_reducible rfl)); (try simp only [Act.put, List.setIfInBounds_toArray, List.set_cons_zero, List.set_cons_succ])) | (refine seq_skip rfl ?_ ?_; rfl; (try simp only [Act.put, List.setIfInBounds_toArray, List.set_cons_zero, List.set_cons_succ])))
  refine seq_done ?_
  obtain ⟨h0, hh0⟩ : ∃ hz : Nat, (hz : Int) = 2 * N := ⟨2 * N, by omega⟩
  obtain ⟨nb, hnb⟩ : ∃ nb : Nat, (nb : Int) = 2 * N + t := ⟨(2 * N + t).toNat, by omega⟩
  have HT0 : Hid (TsA (wk0 t s so d 0 a4 ee a6 1 0 N) ⟨N, 0, nb, h0, h0⟩ C0 C0 0 ee) := TsA.start a4 hlay HCL.out t4 s4 hh0 (by omega) hnb (by decide) (by omega) (by omega) (by decide) (by have := hlay.n3; omega) o0 o4 d0 d3 hee2 x6.1 x6.2
  have HTK : Hid ((wk0 t s so d 0 a4 ee a6 1 0 N).take = a4) := wk0_take a4
  generalize wk0 t s so d 0 a4 ee a6 1 0 N = T0 at HH2 HT0 HTK
  obtain ⟨P, hP, hPN⟩ : ∃ P : Pl, P = ⟨N, 0, nb, h0, h0⟩ ∧ P.N = N := ⟨_, rfl, rfl⟩
  rw [← hP] at HT0
  clear hP hh0 hnb
  go_wp2_with fail
  go_loopw [18] (fun i wr => ∃ (n : Nat) (T : Wk) (C : List Int) (L : List Ev), n ≤ 40 ∧ i = .int .i64 n ∧ Hid (TsH W wr p c C L b kk ee a6 1 T []) ∧ Hid (TsA T P C C0 n ee) ∧ Hid (T.take = a4) ∧ Hid (L.length ≤ 100 + n)) (fun i _ => 300 - (intOf i).toNat)
  case atStart => exact ⟨0, _, _, _, by omega, rfl, HH2, HT0, HTK, HLL⟩
  case round =>
    clear HH2 HT0 HTK HLL HCL
    obtain ⟨n, T, C, L, hn, rfl, HH, HT, HK, HL⟩ := hrel
    by_cases hp : T.ph = 0
    · have hn4 : n < 40 := by
        rcases Nat.lt_or_ge n 40 with h | h
        · exact h
        · exact absurd hp (HT.out.over (by omega) h)
      have hn3 : (n : Int) < 300 := by omega
      have HO := Lib.hid (HH.out.over' false (by simp [hp]))
      clear hp
      go_wp2_with fail
      refine HO.out.mono ?_
      rintro r wr2 ⟨rfl, hb⟩
      replace HH := Lib.hid (HH.out.later hb)
      clear hb HO
      have HF := Lib.hid HH.out.fit
      go_wp2_with fail
      refine (HH.out.step (now := (n : Int)) HT.out.ok (by omega) (by have := HL.out; omega)).mono ?_
      rintro r wr3 ⟨z, hz, rfl, hH⟩
      have HH2 := Lib.hid hH
      have HT2 := Lib.hid (HT.out.step (now := (n : Int)) hz (by omega) HF.out)
      have HK2 : Hid ((T.step P C n z).take = a4) := Wk.take_step.trans HK.out
      have HL2 := Lib.hid (Wk.ev_le (T := T) (P := P) (C := C) (now := (n : Int)))
      clear hH hz HH HT HK HF
      go_wp2_with fail
      go_roundw
      case rel => exact ⟨n + 1, _, _, _, by omega, by go_num, HH2, HT2, HK2, by have := HL.out; have := HL2.out; show _ ≤ _; rw [List.length_append]; omega⟩
      case measure => first | omega | (simp [intOf]; done) | (simp [intOf]; omega)
    · have HO := Lib.hid (HH.out.over' true (by simp [hp]))
      have HP := Lib.hid hp
      obtain ⟨ok, v, lo, hi, hre, hl1, hl2⟩ := T.reply_form
      rw [HK.out] at hl1 hl2
      have HRE := Lib.hid hre
      clear hp hre
      go_wp2_with fail
      refine HO.out.mono ?_
      rintro r wr2 ⟨rfl, hb⟩
      replace HH := Lib.hid (HH.out.later hb)
      clear hb HO
      go_wp2_with fail
      refine (HH.out.reply HT.out.ok).mono ?_
      rintro r wr3 ⟨rfl, hb⟩
      replace HH := Lib.hid (HH.out.later hb)
      clear hb
      rw [HRE.out]
      go_wp2_with fail
      have HX : Hid (TsH W (wr3.alloc (.cells #[.bool ok, .int .u64 v, .int .i64 lo, .int .i64 hi] 47)) p c C L b kk ee a6 1 T [tObj W.heap.size wr3.heap.size [.bool ok, .int .u64 v, .int .i64 lo, .int .i64 hi]]) := HH.out.more (below_new (Below.refl _ _) _) (tObj_ok _ _ _) ⟨IsObj.made wr3 [.bool ok, .int .u64 v, .int .i64 lo, .int .i64 hi] 47, HH.out.size⟩ (fun q hq => by cases hq; exact Nat.le_refl _)
      clear HH
      generalize wr3.alloc (.cells #[.bool ok, .int .u64 v, .int .i64 lo, .int .i64 hi] 47) = wa at HX ⊢
      generalize wr3.heap.size = rb at HX ⊢
      obtain ⟨l, hl⟩ : ∃ l, L.length = l := ⟨_, rfl⟩
      have hlb : l ≤ 140 := by have := HL.out; omega
      have Hl := Lib.hid hl
      clear hl HL
      refine (HX.out.count l Hl.out).mono ?_
      rintro r wr4 ⟨rfl, hb⟩
      replace HX := Lib.hid (HX.out.later hb)
      clear hb
      go_wp2_with fail
      go_loopw [21] (fun i wr => ∃ (q : Nat), q ≤ 5 ∧ i = .int .i64 q ∧ Hid (TsH W wr p c C L b kk ee a6 1 T [tObj W.heap.size rb [.bool ok, .int .u64 v, .int .i64 lo, .int .i64 hi]])) (fun i _ => 5 - (intOf i).toNat)
      case atStart => exact ⟨0, by omega, rfl, HX⟩
      case round =>
        clear HX
        obtain ⟨q, hq, rfl, HX⟩ := hrel
        rcases Nat.lt_or_ge q 5 with hq5 | hq5
        · have hq5' : (q : Int) < 5 := by omega
          have HST := Lib.hid (fun now n0 => HX.out.rest (now := now) HT.out.ok n0 (by have := Hl.out; omega) HP.out)
          have hqq : 0 ≤ IntKind.i64.wrap ((n : Int) + (q : Int)) := by rw [IntWalk.i64_in _ (by omega)]; omega
          go_wp2_with fail
          refine wp_region_seqS ((fun w' => AtR w' rb ok v lo hi)) ((0, true) :: (1, true) :: (2, true) :: (3, true) :: (4, true) :: (5, false) :: (6, true) :: (7, true) :: (8, true) :: (10, true) :: (9, false) :: (11, true) :: (12, true) :: []) (by kernel_rfl) (by kernel_rfl) (by kernel_rfl) (by decide) (fun _ _ _ _ _ h => h) ((AtR.of HX.out.drew)) ?_
          replace HX := Lib.hid HX.out.drew
          repeat (first | (refine seq_take (v := ?_) rfl ?_ ?_ ?_; rotate_left 1; rfl; (focus (intro wS hSw; obtain ⟨k0, k1, k2, k3⟩ := hSw; go_simp; first | done | with_reducible rfl)); (try simp only [Act.put, List.setIfInBounds_toArray, List.set_cons_zero, List.set_cons_succ])) | (refine seq_skip rfl ?_ ?_; rfl; (try simp only [Act.put, List.setIfInBounds_toArray, List.set_cons_zero, List.set_cons_succ])))
          refine seq_run rfl (fun K hK => ?_)
          go_simp
          go_at_call 20
          refine (HX.out.rest (now := IntKind.i64.wrap ((n : Int) + (q : Int))) HT.out.ok hqq (by have := Hl.out; omega) HP.out).mono ?_
          rintro r wr5 ⟨rfl, hH⟩
          (try go_wp2_with fail)
          replace HX := Lib.hid hH
          clear hH
          refine hK.out _ _ ((AtR.of HX.out)) (fun _ => ?_)
          (try simp only [Act.put, List.setIfInBounds_toArray, List.set_cons_zero, List.set_cons_succ])
          clear hK K
          repeat (first | (refine seq_take (v := ?_) rfl ?_ ?_ ?_; rotate_left 1; rfl; (focus (intro wS hSw; obtain ⟨k0, k1, k2, k3⟩ := hSw; go_simp; first | done | with_reducible rfl)); (try simp only [Act.put, List.setIfInBounds_toArray, List.set_cons_zero, List.set_cons_succ])) | (refine seq_skip rfl ?_ ?_; rfl; (try simp only [Act.put, List.setIfInBounds_toArray, List.set_cons_zero, List.set_cons_succ])))
          refine seq_run rfl (fun K hK => ?_)
          go_simp
          go_at_call 17
          refine (HX.out.reply HT.out.ok).mono ?_
          rintro r wr6 ⟨rfl, hb⟩
          (try go_wp2_with fail)
          replace HX := Lib.hid (HX.out.later hb)
          clear hb
          rw [HRE.out]
          refine hK.out _ _ ((AtR.of HX.out)) (fun _ => ?_)
          (try simp only [Act.put, List.setIfInBounds_toArray, List.set_cons_zero, List.set_cons_succ])
          clear hK K
          repeat (first | (refine seq_take (v := ?_) rfl ?_ ?_ ?_; rotate_left 1; rfl; (focus (intro wS hSw; obtain ⟨k0, k1, k2, k3⟩ := hSw; go_simp; first | done | with_reducible rfl)); (try simp only [Act.put, List.setIfInBounds_toArray, List.set_cons_zero, List.set_cons_succ])) | (refine seq_skip rfl ?_ ?_; rfl; (try simp only [Act.put, List.setIfInBounds_toArray, List.set_cons_zero, List.set_cons_succ])))
          refine seq_done ?_
          go_wp2_with fail
          go_roundw
          case rel => exact ⟨q + 1, by omega, by go_num, HX⟩
          case measure => first | omega | (simp [intOf]; done) | (simp [intOf]; omega)
        · have hq5' : ¬ (q : Int) < 5 := by omega
          have HO := Lib.hid (HX.out.over' true (by simp; exact HP.out))
          go_wp2_with fail
          refine HO.out.mono ?_
          rintro r wr5 ⟨rfl, hb⟩
          replace HX := Lib.hid (HX.out.later hb)
          clear hb HO
          go_wp2_with fail
          refine (HX.out.count l Hl.out).mono ?_
          rintro r wr6 ⟨rfl, hb⟩
          replace HX := Lib.hid (HX.out.later hb)
          clear hb
          obtain ⟨k0, k1, k2, k3⟩ := AtR.of HX.out
          cases a4 with
          | true =>
            obtain ⟨rfl, rfl⟩ := hl1 rfl
            go_wp2_with fail
            go_ret
            exact ⟨rfl, below_step' HB.out HX.out.below HB.out.size⟩
          | false =>
            obtain rfl := hl2 rfl
            go_wp2_with fail
            go_ret
            exact ⟨rfl, below_step' HB.out HX.out.below HB.out.size⟩

end Go.Proofs.Ytemaghebpnjmoaa
