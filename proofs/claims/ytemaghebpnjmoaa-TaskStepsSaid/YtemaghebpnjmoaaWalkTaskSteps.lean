/-
  TaskSteps answers true for all lists and numbers, and leaves all memory that was there as it was. No condition.
-/
import Derived.Test.YtemaghebpnjmoaaTaskTwo
namespace Go.Proofs.Ytemaghebpnjmoaa
open Go.RowKit
set_option linter.unusedVariables false

/-- A task is begun: what was there stays. -/
theorem TsH.begun' {W w : World} {p c : Nat} {v : Value} {C : List Int} {L : List Ev} {R : List Thing} {t s so d who e x start m : Int} {N : Nat} (take : Bool) {kd : Int} (hk : kdI take = kd) (h : Hold W w (tMem W.heap.size p c v C L :: R)) (hl : Lay t s N) (w0 : 0 ≤ who) (w1 : who < t) (hm : who * s = m) (m0 : 0 ≤ m) (m1 : m + s ≤ N) (he : e = 0 ∨ e = 1) :
    Calls Try.prog 12 #[cf t s so d, i64 who, callV kd e x start] w fun r w' => ∃ b, r = .returned (pt b) ∧ TsH W w' p c C L b kd e x start (wk0 t s so d who take e x start m N) R ∧ Below w.heap.size w w' := by
  subst hk
  cases take with
  | false =>
    refine (tknew_put t s so d who e x start m hl w0 w1 hm m0 m1 he).mono ?_
    rintro r w' ⟨b, bp, b1, b2, h1, h2, h3, h4, h5, h6⟩
    exact ⟨b, h1, ⟨v, bp, b1, b2, PuHold.tbegun h h4 h2 h3 h5 h6⟩, h4⟩
  | true =>
    refine (tknew_get (base := W.heap.size) t s so d who e x start hl he h.size).mono ?_
    rintro r w' ⟨b, bg, bs, gs, h1, h2, h3, h4, h5, h6⟩
    exact ⟨b, h1, ⟨bg, GeH.tbegun h h4 h2 h3 h5 h6⟩, h4⟩
/-- A struct of four cells. -/
structure At4 (w : World) (rb : Nat) (y0 y1 y2 y3 : Value) : Prop where
  c0 : w.cell? ⟨rb, 0, none⟩ = some y0
  c1 : w.cell? ⟨rb, 1, none⟩ = some y1
  c2 : w.cell? ⟨rb, 2, none⟩ = some y2
  c3 : w.cell? ⟨rb, 3, none⟩ = some y3
theorem At4.later {w w' : World} {rb : Nat} {y0 y1 y2 y3 : Value} (h : At4 w rb y0 y1 y2 y3) (k : Below w.heap.size w w') : At4 w' rb y0 y1 y2 y3 :=
  ⟨(k.cell (p := ⟨rb, 0, none⟩) (World.block_lt_of_cell? _ _ h.c0)).trans h.c0, (k.cell (p := ⟨rb, 1, none⟩) (World.block_lt_of_cell? _ _ h.c1)).trans h.c1, (k.cell (p := ⟨rb, 2, none⟩) (World.block_lt_of_cell? _ _ h.c2)).trans h.c2, (k.cell (p := ⟨rb, 3, none⟩) (World.block_lt_of_cell? _ _ h.c3)).trans h.c3⟩
theorem IsObj.at4 {w : World} {rb : Nat} {y0 y1 y2 y3 : Value} (h : IsObj w rb [y0, y1, y2, y3]) : At4 w rb y0 y1 y2 y3 := ⟨h.at' 0 _ rfl, h.at' 1 _ rfl, h.at' 2 _ rfl, h.at' 3 _ rfl⟩
theorem Wk.pu_of {T : Wk} (h : T.take = false) : ∃ k, T = .pu k := by
  cases T with
  | pu k => exact ⟨k, rfl⟩
  | ge k => cases h
theorem Wk.ge_of {T : Wk} (h : T.take = true) : ∃ k, T = .ge k := by
  cases T with
  | pu k => cases h
  | ge k => exact ⟨k, rfl⟩

set_option maxRecDepth 100000 in
set_option maxHeartbeats 8000000 in
theorem walk_TaskSteps (a0 : Int) (a1 : Int) (a2 : Int) (a3 : Int) (a4 : Option Addr) (len4 cap4 : Nat) (a5 : Bool) (a6 : Bool) (a7 : Int) (a8 : Int) (w : World) (w0 : (Lit.int .i64 a0).wf = true) (w1 : (Lit.int .i64 a1).wf = true) (w2 : (Lit.int .i64 a2).wf = true) (w3 : (Lit.int .i64 a3).wf = true) (w4 : IsRows w [.inl .i64, .inl .i64, .inl .i64, .inl .i64, .inr true, .inl .u64] a4 len4 cap4) (w7 : (Lit.int .u64 a7).wf = true) (w8 : (Lit.int .i64 a8).wf = true) :
    Calls Try.prog 4 #[.int .i64 a0, .int .i64 a1, .int .i64 a2, .int .i64 a3, .slice a4 len4 cap4, .bool a5, .bool a6, .int .u64 a7, .int .i64 a8] w fun e w' => e = .returned (.bool true) ∧ Below w.heap.size w w' := by
  have x7 := u64_wf w7
  clear w0 w1 w2 w3 w7 w8
  rcases Nat.lt_or_ge 64 len4 with hbig | hs4
  · have hbig' : (64 : Int) < (len4 : Int) := by omega
    clear w4
    go_enter Try.func4, Try.ntmps4
    go_wp2_with fail
    refine (head12_any _).mono ?_
    rintro e w1 ⟨rfl, hb1⟩
    go_wp2_with fail
    go_ret
    exact ⟨rfl, hb1⟩
  have p4 : decide ((64 : Int) < (len4 : Int)) = false := decide_eq_false (by omega)
  obtain ⟨tb, off, X, hX⟩ := rows_things w4
  have HX : Hid (IsThs w a4 len4 cap4 tb off X) := hX
  obtain ⟨uw, huw, lw, gw⟩ : ∃ u, bits .and .i64 a3 65535 = u ∧ 0 ≤ u ∧ u ≤ 65535 := ⟨_, and_ffff a3, by omega, by omega⟩
  clear w4 hX
  go_enter Try.func4, Try.ntmps4
  go_wp2_with fail
  refine (head12_any _).mono ?_
  rintro e w1 ⟨rfl, hb1⟩
  go_wp2_with fail
  refine (conf4_any _ _ _ _ _).mono ?_
  rintro e w2 ⟨t, s, so, d, rfl, t1, t4, s1, s4, o0, o4, d0, d3, hb2⟩
  have ht0 : (t == 0) = false := by simp; omega
  have hB2 := Lib.hid (below_step hb1 hb2)
  clear hb1 hb2
  obtain ⟨N, hNe, hlay, hN1, hN2⟩ := lay44 t1 t4 s1 s4
  clear hNe
  go_wp2_with fail
  have hw0 := Int.emod_nonneg uw (show t ≠ 0 by omega)
  have hw1 := Int.emod_lt_of_pos uw (show 0 < t by omega)
  generalize uw % t = who at hw0 hw1 ⊢
  clear huw lw gw
  have hA := AtC.made w2 t s so d
  have hB3 := below_new (Below.refl w2.heap.size w2) (.cells #[.int .i64 t, .int .i64 s, .int .i64 so, .int .i64 d] 32)
  have hs3 : w2.heap.size < (w2.alloc (.cells #[.int .i64 t, .int .i64 s, .int .i64 so, .int .i64 d] 32)).heap.size := by simp
  have HA := Lib.hid hA
  have HB := Lib.hid (below_step hB2.out hB3)
  have Hs := Lib.hid hs3
  clear hA hB3 hs3 hB2
  generalize w2.alloc (.cells #[.int .i64 t, .int .i64 s, .int .i64 so, .int .i64 d] 32) = W at HA HB Hs ⊢
  generalize w2.heap.size = cb at HA Hs ⊢
  clear w2 w1
  obtain ⟨M, hM⟩ : ∃ M : Nat, 2 * (N : Int) + 2 * t = (M : Int) := ⟨(2 * (N : Int) + 2 * t).toNat, by omega⟩
  have HM := Lib.hid hM
  clear hM
  refine (things_any W.heap.size t s so d N M HM.out a4 len4 cap4 tb off X _ hlay (Nat.le_refl _) (HX.out.later HB.out (fun i hi => (HX.out i hi).2.2.1))).mono ?_
  rintro r w3 ⟨p, c, v0, rfl, hM3, hb3, hf3⟩
  have HH0 : Hid (Hold W w3 [tMem W.heap.size p c v0 (thC X N (List.replicate M 0) (min N len4)) (thL X N (List.replicate M 0) (min N len4))]) := (Hold.nil (Below.refl _ _)).more hb3 (tMem_ok _ _ _ _ _ _) hM3 hf3
  clear hM3 hb3 hf3
  obtain ⟨q0, q1, q2, q3⟩ := HA.out.later HH0.out.below Hs.out
  go_wp2_with fail
  refine (things_any W.heap.size t s so d N M HM.out a4 len4 cap4 tb off X _ hlay HH0.out.size (HX.out.later (below_step' HB.out HH0.out.below HB.out.size) (fun i hi => (HX.out i hi).2.2.1))).mono ?_
  rintro r w4 ⟨p', c', v0', rfl, hM4, hb4, hf4⟩
  have HH1 : Hid (Hold W w4 [tMem W.heap.size p c v0 (thC X N (List.replicate M 0) (min N len4)) (thL X N (List.replicate M 0) (min N len4)), tMem W.heap.size p' c' v0' (thC X N (List.replicate M 0) (min N len4)) (thL X N (List.replicate M 0) (min N len4))]) := Hold.more HH0.out hb4 (tMem_ok _ _ _ _ _ _) hM4 hf4
  clear hM4 hb4 hf4 HH0 q0 q1 q2 q3 HX
  obtain ⟨C0, hC0⟩ : ∃ C0, thC X N (List.replicate M 0) (min N len4) = C0 := ⟨_, rfl⟩
  obtain ⟨L0, hL0⟩ : ∃ L0, thL X N (List.replicate M 0) (min N len4) = L0 := ⟨_, rfl⟩
  have HCL : Hid ((C0.length : Int) = 2 * N + 2 * t) := by show _ = _; rw [← hC0, thC_len, List.length_replicate]; exact HM.out.symm
  have HLL : Hid (L0.length ≤ 100 + 0) := by show _ ≤ _; rw [← hL0, thL_len]; omega
  rw [hC0, hL0] at HH1
  clear hC0 hL0
  obtain ⟨ee, hee, hee2⟩ : ∃ e : Int, kdI a6 = e ∧ (e = 0 ∨ e = 1) := ⟨_, rfl, by cases a6 <;> simp⟩
  obtain ⟨kk, hkk⟩ : ∃ e : Int, kdI a5 = e := ⟨_, rfl⟩
  have Hee := Lib.hid hee
  have Hkk := Lib.hid hkk
  clear hee hkk
  obtain ⟨m, hm, hmN⟩ := who_s hlay hw0 hw1
  go_wp2_with fail
  refine (make_at a5 a6 a7 a8 kk ee _ Hkk.out Hee.out).mono ?_
  rintro r w5 ⟨rfl, hb5⟩
  replace HH1 := Lib.hid (Hold.later HH1.out hb5)
  clear hb5
  have hbx := below_new (Below.refl w5.heap.size w5) (.cells #[.int .i64 kk, .int .i64 ee, .int .u64 a7, .int .i64 a8] 27)
  have HX0 : Hid (At4 (w5.alloc (.cells #[.int .i64 kk, .int .i64 ee, .int .u64 a7, .int .i64 a8] 27)) w5.heap.size (.int .i64 kk) (.int .i64 ee) (.int .u64 a7) (.int .i64 a8)) := (IsObj.made w5 [.int .i64 kk, .int .i64 ee, .int .u64 a7, .int .i64 a8] 27).at4
  replace HH1 := Lib.hid (Hold.later HH1.out hbx)
  clear hbx
  obtain ⟨c0, c1, c2, c3⟩ := HX0.out
  obtain ⟨q0, q1, q2, q3⟩ := HA.out.later (Hold.below HH1.out) Hs.out
  go_wp2_with fail
  clear q0 q1 q2 q3 c0 c1 c2 c3
  generalize w5.alloc (.cells #[.int .i64 kk, .int .i64 ee, .int .u64 a7, .int .i64 a8] 27) = w6 at HX0 HH1 ⊢
  generalize w5.heap.size = xb at HX0 ⊢
  refine (TsH.begun' (v := v0) (who := who) (m := (m : Int)) a5 Hkk.out HH1.out hlay hw0 hw1 hm (by omega) hmN hee2).mono ?_
  rintro r w7 ⟨b, rfl, hT7, hb7⟩
  have HH2 := Lib.hid hT7
  replace HX0 := Lib.hid (HX0.out.later hb7)
  clear hT7 HH1 hb7
  obtain ⟨c0, c1, c2, c3⟩ := HX0.out
  obtain ⟨q0, q1, q2, q3⟩ := HA.out.later HH2.out.below Hs.out
  go_wp2_with fail
  refine (punew_any _ N m t s so d who ee a7 hlay hw0 hw1 hm (by omega) hmN).mono ?_
  rintro r w8 ⟨bp, b1, b2, rfl, hP8, hb8, hn8⟩
  replace HX0 := Lib.hid (HX0.out.later hb8)
  have HP8 := Lib.hid hP8
  have HN8 := Lib.hid hn8
  have HB8 := Lib.hid hb8
  clear hP8 hn8 hb8 q0 q1 q2 q3 c0 c1 c2 c3
  obtain ⟨c0, c1, c2, c3⟩ := HX0.out
  obtain ⟨q0, q1, q2, q3⟩ := HA.out.later (HH2.out.later HB8.out).below Hs.out
  go_wp2_with fail
  refine (genew_any W.heap.size _ N t s so d who ee a8 hlay (HH2.out.later HB8.out).size).mono ?_
  rintro r w9 ⟨bg, bs, gs, rfl, hG9, hb9, hn9⟩
  replace HX0 := Lib.hid (HX0.out.later hb9)
  have HH3 : Hid (TwoH W w9 p c p' c' C0 L0 C0 L0 b kk ee a7 a8 (wk0 t s so d who a5 ee a7 a8 m N) (wk0 t s so d who a5 ee a7 a8 m N) bp bg []) := TwoH.begun a5 HH2.out HB8.out HP8.out HN8.out hb9 hG9 hn9
  clear hG9 hb9 hn9 HP8 HN8 HB8 HH2 q0 q1 q2 q3 c0 c1 c2 c3
  obtain ⟨h0, hh0⟩ : ∃ hz : Nat, (hz : Int) = 2 * N := ⟨2 * N, by omega⟩
  obtain ⟨hw, hhw⟩ : ∃ hz : Nat, (hz : Int) = 2 * N + who := ⟨(2 * N + who).toNat, by omega⟩
  obtain ⟨nb, hnb⟩ : ∃ nb : Nat, (nb : Int) = 2 * N + t := ⟨(2 * N + t).toNat, by omega⟩
  have HT0 : Hid (TsA (wk0 t s so d who a5 ee a7 a8 m N) ⟨N, m, nb, h0, hw⟩ C0 C0 0 ee) := TsA.start a5 hlay HCL.out t4 s4 hh0 hhw hnb hw0 hw1 hm (by omega) hmN o0 o4 d0 d3 hee2 x7.1 x7.2
  have HTK : Hid ((wk0 t s so d who a5 ee a7 a8 m N).take = a5) := wk0_take a5
  have HPH : Hid ((wk0 t s so d who a5 ee a7 a8 m N).ph = 0) := by show _ = _; cases a5 <;> rfl
  generalize wk0 t s so d who a5 ee a7 a8 m N = T0 at HH3 HT0 HTK HPH
  obtain ⟨P, hP, hPN⟩ : ∃ P : Pl, P = ⟨N, m, nb, h0, hw⟩ ∧ P.N = N := ⟨_, rfl, rfl⟩
  rw [← hP] at HT0
  clear hP hh0 hnb hhw hm hmN
  go_wp2_with fail
  refine wp_region_seqS ((fun w' => At4 w' xb (.int .i64 kk) (.int .i64 ee) (.int .u64 a7) (.int .i64 a8))) ((0, true) :: (2, true) :: (1, false) :: (3, true) :: (4, true) :: (5, true) :: (6, false) :: (7, true) :: (8, true) :: (9, true) :: (11, true) :: (10, false) :: (12, true) :: (13, true) :: []) (by kernel_rfl) (by kernel_rfl) (by kernel_rfl) (by decide) (fun _ _ _ _ _ h => h) ((HX0.out.later (Below.refl _ _).drew)) ?_
  replace HX0 := Lib.hid (HX0.out.later (Below.refl _ _).drew)
  replace HH3 := Lib.hid HH3.out.drew
  repeat (first | (refine seq_take (v := ?_) rfl ?_ ?_ ?_; rotate_left 1; rfl; (focus (intro wS hSw; obtain ⟨c0, c1, c2, c3⟩ := hSw; go_simp; first | done | with_reducible rfl)); (try simp only [Act.put, List.setIfInBounds_toArray, List.set_cons_zero, List.set_cons_succ])) | (refine seq_skip rfl ?_ ?_; rfl; (try simp only [Act.put, List.setIfInBounds_toArray, List.set_cons_zero, List.set_cons_succ])))
  refine seq_run rfl (fun K hK => ?_)
  go_simp
  go_at_call 15
  refine HH3.out.call.mono ?_
  rintro r wa ⟨rfl, hb⟩
  (try go_wp2_with fail)
  replace HX0 := Lib.hid (HX0.out.later hb)
  replace HH3 := Lib.hid (HH3.out.later hb)
  clear hb
  refine hK.out _ _ (HX0.out) (fun _ => ?_)
  (try simp only [Act.put, List.setIfInBounds_toArray, List.set_cons_zero, List.set_cons_succ])
  clear hK K
  repeat (first | (refine seq_take (v := ?_) rfl ?_ ?_ ?_; rotate_left 1; rfl; (focus (intro wS hSw; obtain ⟨c0, c1, c2, c3⟩ := hSw; go_simp; first | done | with_reducible rfl)); (try simp only [Act.put, List.setIfInBounds_toArray, List.set_cons_zero, List.set_cons_succ])) | (refine seq_skip rfl ?_ ?_; rfl; (try simp only [Act.put, List.setIfInBounds_toArray, List.set_cons_zero, List.set_cons_succ])))
  refine seq_run rfl (fun K hK => ?_)
  go_simp
  go_at_call 16
  refine (HH3.out.over false (by rw [HPH.out]; rfl)).mono ?_
  rintro r wb ⟨rfl, hb⟩
  (try go_wp2_with fail)
  replace HX0 := Lib.hid (HX0.out.later hb)
  replace HH3 := Lib.hid (HH3.out.later hb)
  clear hb
  refine hK.out _ _ (HX0.out) (fun _ => ?_)
  (try simp only [Act.put, List.setIfInBounds_toArray, List.set_cons_zero, List.set_cons_succ])
  clear hK K
  repeat (first | (refine seq_take (v := ?_) rfl ?_ ?_ ?_; rotate_left 1; rfl; (focus (intro wS hSw; obtain ⟨c0, c1, c2, c3⟩ := hSw; go_simp; first | done | with_reducible rfl)); (try simp only [Act.put, List.setIfInBounds_toArray, List.set_cons_zero, List.set_cons_succ])) | (refine seq_skip rfl ?_ ?_; rfl; (try simp only [Act.put, List.setIfInBounds_toArray, List.set_cons_zero, List.set_cons_succ])))
  refine seq_run rfl (fun K hK => ?_)
  go_simp
  go_at_call 17
  refine (HH3.out.reply HT0.out.ok (replyV false 0 0 0) (Wk.reply_no (by rw [HPH.out]; decide))).mono ?_
  rintro r wd ⟨rfl, hb⟩
  (try go_wp2_with fail)
  replace HX0 := Lib.hid (HX0.out.later hb)
  replace HH3 := Lib.hid (HH3.out.later hb)
  clear hb
  refine hK.out _ _ (HX0.out) (fun _ => ?_)
  (try simp only [Act.put, List.setIfInBounds_toArray, List.set_cons_zero, List.set_cons_succ])
  clear hK K
  repeat (first | (refine seq_take (v := ?_) rfl ?_ ?_ ?_; rotate_left 1; rfl; (focus (intro wS hSw; obtain ⟨c0, c1, c2, c3⟩ := hSw; go_simp; first | done | with_reducible rfl)); (try simp only [Act.put, List.setIfInBounds_toArray, List.set_cons_zero, List.set_cons_succ])) | (refine seq_skip rfl ?_ ?_; rfl; (try simp only [Act.put, List.setIfInBounds_toArray, List.set_cons_zero, List.set_cons_succ])))
  refine seq_done ?_
  clear HX0 HPH
  go_wp2_with fail
  go_loopw [26] (fun i wr => ∃ (n : Nat) (T : Wk) (C : List Int) (L : List Ev), n ≤ 200 ∧ i = .int .i64 n ∧ Hid (TwoH W wr p c p' c' C L C L b kk ee a7 a8 T T bp bg []) ∧ Hid (TsA T P C C0 n ee) ∧ Hid (T.take = a5) ∧ Hid (L.length ≤ 100 + n)) (fun i _ => 200 - (intOf i).toNat)
  case atStart => exact ⟨0, _, _, _, by omega, rfl, HH3, HT0, HTK, HLL⟩
  case round =>
    clear HH3 HT0 HTK HLL HCL
    obtain ⟨n, T, C, L, hn, rfl, HH, HT, HK, HL⟩ := hrel
    rcases Nat.lt_or_ge n 200 with hlt | hge
    · have hlt' : (n : Int) < 200 := by omega
      cases a5 with
      | false =>
        obtain ⟨k, hk⟩ := Wk.pu_of HK.out
        subst hk
        have HF := Lib.hid HH.out.fit
        go_wp2_with fail
        refine (HH.out.put (P := P) (now := (n : Int)) HT.out.ok (by omega) (by have := HL.out; omega)).mono ?_
        rintro r wa ⟨z, hz, rfl, hH⟩
        have HZ := Lib.hid hz
        have HH2 := Lib.hid hH
        clear hz hH HH
        obtain ⟨T2, hT2⟩ : ∃ T2, (Wk.pu k).step P C n z = T2 := ⟨_, rfl⟩
        have HTE := Lib.hid hT2
        rw [hT2] at HH2 ⊢
        clear hT2
        obtain ⟨ph, hph⟩ : ∃ y, T2.ph = y := ⟨_, rfl⟩
        have HPH := Lib.hid hph
        rw [hph]
        clear hph
        go_wp2_with fail
        refine (HH2.out.task (P := P) (now := (n : Int)) HT.out.ok (by omega) (by have := HL.out; omega)).mono ?_
        rintro r wb ⟨z', hz', rfl, hH⟩
        have hTT : (Wk.pu k).step P C n z' = T2 := (Wk.step_one HT.out.ok HF.out hz' HZ.out).trans HTE.out
        rw [hTT] at hH ⊢
        rw [HPH.out]
        have HH3 := Lib.hid hH
        have HT2 : Hid (TsA T2 P ((Wk.pu k).cells P C n) C0 (n + 1) ee) := by
          have h := HT.out.step (now := (n : Int)) HZ.out (by omega) HF.out
          rw [HTE.out] at h
          exact h
        have HK2 : Hid (T2.take = false) := by
          have h := Wk.take_step (T := (Wk.pu k)) (P := P) (C := C) (now := (n : Int)) (z := z)
          rw [HTE.out] at h
          exact h
        have HL2 : Hid ((L ++ (Wk.pu k).ev P C n).length ≤ 100 + (n + 1)) := by
          have h := Wk.ev_le (T := (Wk.pu k)) (P := P) (C := C) (now := (n : Int))
          have := HL.out
          show _ ≤ _
          rw [List.length_append]
          omega
        clear hTT hH hz' HZ HTE HF HT HK HL HH2
        generalize (Wk.pu k).cells P C n = C2 at HH3 HT2
        generalize L ++ (Wk.pu k).ev P C n = L2 at HH3 HL2
        rcases (by omega : ph = 0 ∨ ph = 1 ∨ (ph ≠ 0 ∧ ph ≠ 1)) with h | h | h
        · subst h
          as_aux_lemma =>
            have HO := Lib.hid (fun w0 (h : TwoH W w0 p c p' c' C2 L2 C2 L2 b kk ee a7 a8 T2 T2 bp bg []) => h.over false (by rw [HPH.out]; rfl))
            obtain ⟨l, hl⟩ : ∃ l, L2.length = l := ⟨_, rfl⟩
            have Hl := Lib.hid hl
            clear hl
            go_wp2_with fail
            refine (HO.out _ HH3.out).mono ?_
            rintro r wd ⟨rfl, hb⟩
            replace HH3 := Lib.hid (HH3.out.later hb)
            clear hb HO
            go_wp2_with fail
            refine (HH3.out.count1 l Hl.out).mono ?_
            rintro r we ⟨rfl, hb⟩
            replace HH3 := Lib.hid (HH3.out.later hb)
            clear hb
            go_wp2_with fail
            refine (HH3.out.count2 l Hl.out).mono ?_
            rintro r wf ⟨rfl, hb⟩
            replace HH3 := Lib.hid (HH3.out.later hb)
            clear hb
            have HX : Hid (TwoH W (wf.alloc (.cells #[.bool false, .int .u64 0, .int .i64 0, .int .i64 0] 47)) p c p' c' C2 L2 C2 L2 b kk ee a7 a8 T2 T2 bp bg [tObj W.heap.size wf.heap.size [.bool false, .int .u64 0, .int .i64 0, .int .i64 0]]) := HH3.out.more (below_new (Below.refl _ _) _) (tObj_ok _ _ _) ⟨IsObj.made wf [.bool false, .int .u64 0, .int .i64 0, .int .i64 0] 47, HH3.out.size⟩ (fun q hq => by cases hq; exact Nat.le_refl _)
            clear HH3

            go_wp2_with fail
            generalize wf.alloc (.cells #[.bool false, .int .u64 0, .int .i64 0, .int .i64 0] 47) = wg at HX ⊢
            generalize wf.heap.size = rb at HX ⊢

            refine wp_region_seqS ((fun w' => At4 w' rb (.bool false) (.int .u64 0) (.int .i64 0) (.int .i64 0))) ((0, true) :: (2, true) :: (1, false) :: (3, true) :: []) (by kernel_rfl) (by kernel_rfl) (by kernel_rfl) (by decide) (fun _ _ _ _ _ h => h) ((HX.out.drew.at 0 rfl : (tObj W.heap.size rb _).P _).1.at4) ?_
            replace HX := Lib.hid HX.out.drew
            repeat (first | (refine seq_take (v := ?_) rfl ?_ ?_ ?_; rotate_left 1; rfl; (focus (intro wS hSw; obtain ⟨c0, c1, c2, c3⟩ := hSw; go_simp; first | done | with_reducible rfl)); (try simp only [Act.put, List.setIfInBounds_toArray, List.set_cons_zero, List.set_cons_succ])) | (refine seq_skip rfl ?_ ?_; rfl; (try simp only [Act.put, List.setIfInBounds_toArray, List.set_cons_zero, List.set_cons_succ])))
            refine seq_run rfl (fun K hK => ?_)
            go_simp
            go_at_call 17
            refine (HX.out.reply HT2.out.ok (replyV false 0 0 0) (Wk.reply_no (by rw [HPH.out]; decide))).mono ?_
            rintro r wy ⟨rfl, hb⟩
            (try go_wp2_with fail)
            replace HX := Lib.hid (HX.out.later hb)
            clear hb
            refine hK.out _ _ ((HX.out.at 0 rfl : (tObj W.heap.size rb _).P _).1.at4) (fun _ => ?_)
            (try simp only [Act.put, List.setIfInBounds_toArray, List.set_cons_zero, List.set_cons_succ])
            clear hK K
            repeat (first | (refine seq_take (v := ?_) rfl ?_ ?_ ?_; rotate_left 1; rfl; (focus (intro wS hSw; obtain ⟨c0, c1, c2, c3⟩ := hSw; go_simp; first | done | with_reducible rfl)); (try simp only [Act.put, List.setIfInBounds_toArray, List.set_cons_zero, List.set_cons_succ])) | (refine seq_skip rfl ?_ ?_; rfl; (try simp only [Act.put, List.setIfInBounds_toArray, List.set_cons_zero, List.set_cons_succ])))
            refine seq_done ?_
            have HXL := Lib.hid (TwoH.less (R := []) HX.out)
            clear HX
            go_wp2_with fail
            go_roundw
            case rel => exact ⟨n + 1, T2, C2, L2, by omega, by go_num, HXL, HT2, HK2, HL2⟩
            case measure => first | omega | (simp [intOf]; done) | (simp [intOf]; omega)
        · subst h
          as_aux_lemma =>
            have HO := Lib.hid (fun w0 (h : TwoH W w0 p c p' c' C2 L2 C2 L2 b kk ee a7 a8 T2 T2 bp bg []) => h.over true (by rw [HPH.out]; rfl))
            obtain ⟨l, hl⟩ : ∃ l, L2.length = l := ⟨_, rfl⟩
            have Hl := Lib.hid hl
            clear hl
            go_wp2_with fail
            refine (HO.out _ HH3.out).mono ?_
            rintro r wd ⟨rfl, hb⟩
            replace HH3 := Lib.hid (HH3.out.later hb)
            clear hb HO
            go_wp2_with fail
            refine (HH3.out.count1 l Hl.out).mono ?_
            rintro r we ⟨rfl, hb⟩
            replace HH3 := Lib.hid (HH3.out.later hb)
            clear hb
            go_wp2_with fail
            refine (HH3.out.count2 l Hl.out).mono ?_
            rintro r wf ⟨rfl, hb⟩
            replace HH3 := Lib.hid (HH3.out.later hb)
            clear hb
            have HX : Hid (TwoH W (wf.alloc (.cells #[.bool true, .int .u64 0, .int .i64 0, .int .i64 0] 47)) p c p' c' C2 L2 C2 L2 b kk ee a7 a8 T2 T2 bp bg [tObj W.heap.size wf.heap.size [.bool true, .int .u64 0, .int .i64 0, .int .i64 0]]) := HH3.out.more (below_new (Below.refl _ _) _) (tObj_ok _ _ _) ⟨IsObj.made wf [.bool true, .int .u64 0, .int .i64 0, .int .i64 0] 47, HH3.out.size⟩ (fun q hq => by cases hq; exact Nat.le_refl _)
            clear HH3

            go_wp2_with fail
            generalize wf.alloc (.cells #[.bool true, .int .u64 0, .int .i64 0, .int .i64 0] 47) = wg at HX ⊢
            generalize wf.heap.size = rb at HX ⊢
            obtain ⟨rv, hrv⟩ : ∃ y, T2.rv = y := ⟨_, rfl⟩
            obtain ⟨rl, hrl⟩ : ∃ y, T2.rlo = y := ⟨_, rfl⟩
            obtain ⟨rh, hrh⟩ : ∃ y, T2.rhi = y := ⟨_, rfl⟩
            have HRE : Hid (T2.reply = replyV true rv rl rh) := by
              show _ = _
              rw [Wk.reply_yes HPH.out, hrv, hrl, hrh]
            refine (HX.out.value HT2.out.ok rv hrv).mono ?_
            rintro r wh ⟨rfl, hb⟩
            replace HX := Lib.hid (HX.out.later hb)
            clear hb hrv
            have HO1 : Hid (IsObj wh rb [.bool true, .int .u64 0, .int .i64 0, .int .i64 0]) := (HX.out.at 0 rfl : (tObj W.heap.size rb _).P wh).1
            have f1 := HO1.out.fz 1
            have c1 := HO1.out.at' 1 _ rfl
            go_wp2_with fail
            clear f1 c1 HO1
            replace HX : Hid (TwoH W (wh.setCell ⟨rb, 1, none⟩ (.int .u64 rv)) p c p' c' C2 L2 C2 L2 b kk ee a7 a8 T2 T2 bp bg [tObj W.heap.size rb [.bool true, .int .u64 rv, .int .i64 0, .int .i64 0]]) := HX.out.setB 0 rfl 1 (.int .u64 rv)
            generalize wh.setCell ⟨rb, 1, none⟩ (.int .u64 rv) = wi at HX ⊢
            refine (HX.out.stamp HPH.out rl rh hrl hrh).mono ?_
            rintro r wj ⟨rfl, hb⟩
            replace HX := Lib.hid (HX.out.later hb)
            clear hb hrl hrh
            have HO1 : Hid (IsObj wj rb [.bool true, .int .u64 rv, .int .i64 0, .int .i64 0]) := (HX.out.at 0 rfl : (tObj W.heap.size rb _).P wj).1
            have f2 := HO1.out.fz 2
            have f3 := HO1.out.fz 3
            have c2 := HO1.out.at' 2 _ rfl
            have c3 := HO1.out.at' 3 _ rfl
            go_wp2_with fail
            clear f2 f3 c2 c3 HO1
            replace HX : Hid (TwoH W ((wj.setCell ⟨rb, 2, none⟩ (.int .i64 rl)).setCell ⟨rb, 3, none⟩ (.int .i64 rh)) p c p' c' C2 L2 C2 L2 b kk ee a7 a8 T2 T2 bp bg [tObj W.heap.size rb [.bool true, .int .u64 rv, .int .i64 rl, .int .i64 rh]]) := (HX.out.setB 0 rfl 2 (.int .i64 rl)).setB 0 rfl 3 (.int .i64 rh)
            generalize (wj.setCell ⟨rb, 2, none⟩ (.int .i64 rl)).setCell ⟨rb, 3, none⟩ (.int .i64 rh) = wk at HX ⊢

            refine wp_region_seqS ((fun w' => At4 w' rb (.bool true) (.int .u64 rv) (.int .i64 rl) (.int .i64 rh))) ((0, true) :: (2, true) :: (1, false) :: (3, true) :: []) (by kernel_rfl) (by kernel_rfl) (by kernel_rfl) (by decide) (fun _ _ _ _ _ h => h) ((HX.out.drew.at 0 rfl : (tObj W.heap.size rb _).P _).1.at4) ?_
            replace HX := Lib.hid HX.out.drew
            repeat (first | (refine seq_take (v := ?_) rfl ?_ ?_ ?_; rotate_left 1; rfl; (focus (intro wS hSw; obtain ⟨c0, c1, c2, c3⟩ := hSw; go_simp; first | done | with_reducible rfl)); (try simp only [Act.put, List.setIfInBounds_toArray, List.set_cons_zero, List.set_cons_succ])) | (refine seq_skip rfl ?_ ?_; rfl; (try simp only [Act.put, List.setIfInBounds_toArray, List.set_cons_zero, List.set_cons_succ])))
            refine seq_run rfl (fun K hK => ?_)
            go_simp
            go_at_call 17
            refine (HX.out.reply HT2.out.ok (replyV true rv rl rh) (HRE.out)).mono ?_
            rintro r wy ⟨rfl, hb⟩
            (try go_wp2_with fail)
            replace HX := Lib.hid (HX.out.later hb)
            clear hb
            refine hK.out _ _ ((HX.out.at 0 rfl : (tObj W.heap.size rb _).P _).1.at4) (fun _ => ?_)
            (try simp only [Act.put, List.setIfInBounds_toArray, List.set_cons_zero, List.set_cons_succ])
            clear hK K
            repeat (first | (refine seq_take (v := ?_) rfl ?_ ?_ ?_; rotate_left 1; rfl; (focus (intro wS hSw; obtain ⟨c0, c1, c2, c3⟩ := hSw; go_simp; first | done | with_reducible rfl)); (try simp only [Act.put, List.setIfInBounds_toArray, List.set_cons_zero, List.set_cons_succ])) | (refine seq_skip rfl ?_ ?_; rfl; (try simp only [Act.put, List.setIfInBounds_toArray, List.set_cons_zero, List.set_cons_succ])))
            refine seq_done ?_
            have HXL := Lib.hid (TwoH.less (R := []) HX.out)
            clear HX
            go_wp2_with fail
            go_roundw
            case rel => exact ⟨n + 1, T2, C2, L2, by omega, by go_num, HXL, HT2, HK2, HL2⟩
            case measure => first | omega | (simp [intOf]; done) | (simp [intOf]; omega)
        · obtain ⟨g0, g1⟩ := h
          have g2 : (ph != 0) = true := by simp [g0]
          have g3 : (ph == 1) = false := by simp [g1]
          as_aux_lemma =>
            have HO := Lib.hid (fun w0 (h : TwoH W w0 p c p' c' C2 L2 C2 L2 b kk ee a7 a8 T2 T2 bp bg []) => h.over true (by rw [HPH.out]; exact g2))
            obtain ⟨l, hl⟩ : ∃ l, L2.length = l := ⟨_, rfl⟩
            have Hl := Lib.hid hl
            clear hl
            go_wp2_with fail
            refine (HO.out _ HH3.out).mono ?_
            rintro r wd ⟨rfl, hb⟩
            replace HH3 := Lib.hid (HH3.out.later hb)
            clear hb HO
            go_wp2_with fail
            refine (HH3.out.count1 l Hl.out).mono ?_
            rintro r we ⟨rfl, hb⟩
            replace HH3 := Lib.hid (HH3.out.later hb)
            clear hb
            go_wp2_with fail
            refine (HH3.out.count2 l Hl.out).mono ?_
            rintro r wf ⟨rfl, hb⟩
            replace HH3 := Lib.hid (HH3.out.later hb)
            clear hb
            have HX : Hid (TwoH W (wf.alloc (.cells #[.bool false, .int .u64 0, .int .i64 0, .int .i64 0] 47)) p c p' c' C2 L2 C2 L2 b kk ee a7 a8 T2 T2 bp bg [tObj W.heap.size wf.heap.size [.bool false, .int .u64 0, .int .i64 0, .int .i64 0]]) := HH3.out.more (below_new (Below.refl _ _) _) (tObj_ok _ _ _) ⟨IsObj.made wf [.bool false, .int .u64 0, .int .i64 0, .int .i64 0] 47, HH3.out.size⟩ (fun q hq => by cases hq; exact Nat.le_refl _)
            clear HH3

            go_wp2_with fail
            generalize wf.alloc (.cells #[.bool false, .int .u64 0, .int .i64 0, .int .i64 0] 47) = wg at HX ⊢
            generalize wf.heap.size = rb at HX ⊢

            refine wp_region_seqS ((fun w' => At4 w' rb (.bool false) (.int .u64 0) (.int .i64 0) (.int .i64 0))) ((0, true) :: (2, true) :: (1, false) :: (3, true) :: []) (by kernel_rfl) (by kernel_rfl) (by kernel_rfl) (by decide) (fun _ _ _ _ _ h => h) ((HX.out.drew.at 0 rfl : (tObj W.heap.size rb _).P _).1.at4) ?_
            replace HX := Lib.hid HX.out.drew
            repeat (first | (refine seq_take (v := ?_) rfl ?_ ?_ ?_; rotate_left 1; rfl; (focus (intro wS hSw; obtain ⟨c0, c1, c2, c3⟩ := hSw; go_simp; first | done | with_reducible rfl)); (try simp only [Act.put, List.setIfInBounds_toArray, List.set_cons_zero, List.set_cons_succ])) | (refine seq_skip rfl ?_ ?_; rfl; (try simp only [Act.put, List.setIfInBounds_toArray, List.set_cons_zero, List.set_cons_succ])))
            refine seq_run rfl (fun K hK => ?_)
            go_simp
            go_at_call 17
            refine (HX.out.reply HT2.out.ok (replyV false 0 0 0) (Wk.reply_no (by rw [HPH.out]; exact g1))).mono ?_
            rintro r wy ⟨rfl, hb⟩
            (try go_wp2_with fail)
            replace HX := Lib.hid (HX.out.later hb)
            clear hb
            refine hK.out _ _ ((HX.out.at 0 rfl : (tObj W.heap.size rb _).P _).1.at4) (fun _ => ?_)
            (try simp only [Act.put, List.setIfInBounds_toArray, List.set_cons_zero, List.set_cons_succ])
            clear hK K
            repeat (first | (refine seq_take (v := ?_) rfl ?_ ?_ ?_; rotate_left 1; rfl; (focus (intro wS hSw; obtain ⟨c0, c1, c2, c3⟩ := hSw; go_simp; first | done | with_reducible rfl)); (try simp only [Act.put, List.setIfInBounds_toArray, List.set_cons_zero, List.set_cons_succ])) | (refine seq_skip rfl ?_ ?_; rfl; (try simp only [Act.put, List.setIfInBounds_toArray, List.set_cons_zero, List.set_cons_succ])))
            refine seq_done ?_
            have HXL := Lib.hid (TwoH.less (R := []) HX.out)
            clear HX
            go_wp2_with fail
            go_roundw
            case rel => exact ⟨n + 1, T2, C2, L2, by omega, by go_num, HXL, HT2, HK2, HL2⟩
            case measure => first | omega | (simp [intOf]; done) | (simp [intOf]; omega)
      | true =>
        obtain ⟨k, hk⟩ := Wk.ge_of HK.out
        subst hk
        have HF := Lib.hid HH.out.fit
        go_wp2_with fail
        refine (HH.out.get (P := P) (now := (n : Int)) HT.out.ok (by have := HL.out; omega)).mono ?_
        rintro r wa ⟨z, hz, rfl, hH⟩
        have HZ := Lib.hid hz
        have HH2 := Lib.hid hH
        clear hz hH HH
        obtain ⟨T2, hT2⟩ : ∃ T2, (Wk.ge k).step P C n z = T2 := ⟨_, rfl⟩
        have HTE := Lib.hid hT2
        rw [hT2] at HH2 ⊢
        clear hT2
        obtain ⟨ph, hph⟩ : ∃ y, T2.ph = y := ⟨_, rfl⟩
        have HPH := Lib.hid hph
        rw [hph]
        clear hph
        go_wp2_with fail
        refine (HH2.out.task (P := P) (now := (n : Int)) HT.out.ok (by omega) (by have := HL.out; omega)).mono ?_
        rintro r wb ⟨z', hz', rfl, hH⟩
        have hTT : (Wk.ge k).step P C n z' = T2 := (Wk.step_one HT.out.ok HF.out hz' HZ.out).trans HTE.out
        rw [hTT] at hH ⊢
        rw [HPH.out]
        have HH3 := Lib.hid hH
        have HT2 : Hid (TsA T2 P ((Wk.ge k).cells P C n) C0 (n + 1) ee) := by
          have h := HT.out.step (now := (n : Int)) HZ.out (by omega) HF.out
          rw [HTE.out] at h
          exact h
        have HK2 : Hid (T2.take = true) := by
          have h := Wk.take_step (T := (Wk.ge k)) (P := P) (C := C) (now := (n : Int)) (z := z)
          rw [HTE.out] at h
          exact h
        have HL2 : Hid ((L ++ (Wk.ge k).ev P C n).length ≤ 100 + (n + 1)) := by
          have h := Wk.ev_le (T := (Wk.ge k)) (P := P) (C := C) (now := (n : Int))
          have := HL.out
          show _ ≤ _
          rw [List.length_append]
          omega
        clear hTT hH hz' HZ HTE HF HT HK HL HH2
        generalize (Wk.ge k).cells P C n = C2 at HH3 HT2
        generalize L ++ (Wk.ge k).ev P C n = L2 at HH3 HL2
        rcases (by omega : ph = 0 ∨ ph = 1 ∨ (ph ≠ 0 ∧ ph ≠ 1)) with h | h | h
        · subst h
          as_aux_lemma =>
            have HO := Lib.hid (fun w0 (h : TwoH W w0 p c p' c' C2 L2 C2 L2 b kk ee a7 a8 T2 T2 bp bg []) => h.over false (by rw [HPH.out]; rfl))
            obtain ⟨l, hl⟩ : ∃ l, L2.length = l := ⟨_, rfl⟩
            have Hl := Lib.hid hl
            clear hl
            go_wp2_with fail
            refine (HO.out _ HH3.out).mono ?_
            rintro r wd ⟨rfl, hb⟩
            replace HH3 := Lib.hid (HH3.out.later hb)
            clear hb HO
            go_wp2_with fail
            refine (HH3.out.count1 l Hl.out).mono ?_
            rintro r we ⟨rfl, hb⟩
            replace HH3 := Lib.hid (HH3.out.later hb)
            clear hb
            go_wp2_with fail
            refine (HH3.out.count2 l Hl.out).mono ?_
            rintro r wf ⟨rfl, hb⟩
            replace HH3 := Lib.hid (HH3.out.later hb)
            clear hb
            have HX : Hid (TwoH W (wf.alloc (.cells #[.bool false, .int .u64 0, .int .i64 0, .int .i64 0] 47)) p c p' c' C2 L2 C2 L2 b kk ee a7 a8 T2 T2 bp bg [tObj W.heap.size wf.heap.size [.bool false, .int .u64 0, .int .i64 0, .int .i64 0]]) := HH3.out.more (below_new (Below.refl _ _) _) (tObj_ok _ _ _) ⟨IsObj.made wf [.bool false, .int .u64 0, .int .i64 0, .int .i64 0] 47, HH3.out.size⟩ (fun q hq => by cases hq; exact Nat.le_refl _)
            clear HH3

            go_wp2_with fail
            generalize wf.alloc (.cells #[.bool false, .int .u64 0, .int .i64 0, .int .i64 0] 47) = wg at HX ⊢
            generalize wf.heap.size = rb at HX ⊢

            refine wp_region_seqS ((fun w' => At4 w' rb (.bool false) (.int .u64 0) (.int .i64 0) (.int .i64 0))) ((0, true) :: (2, true) :: (1, false) :: (3, true) :: []) (by kernel_rfl) (by kernel_rfl) (by kernel_rfl) (by decide) (fun _ _ _ _ _ h => h) ((HX.out.drew.at 0 rfl : (tObj W.heap.size rb _).P _).1.at4) ?_
            replace HX := Lib.hid HX.out.drew
            repeat (first | (refine seq_take (v := ?_) rfl ?_ ?_ ?_; rotate_left 1; rfl; (focus (intro wS hSw; obtain ⟨c0, c1, c2, c3⟩ := hSw; go_simp; first | done | with_reducible rfl)); (try simp only [Act.put, List.setIfInBounds_toArray, List.set_cons_zero, List.set_cons_succ])) | (refine seq_skip rfl ?_ ?_; rfl; (try simp only [Act.put, List.setIfInBounds_toArray, List.set_cons_zero, List.set_cons_succ])))
            refine seq_run rfl (fun K hK => ?_)
            go_simp
            go_at_call 17
            refine (HX.out.reply HT2.out.ok (replyV false 0 0 0) (Wk.reply_no (by rw [HPH.out]; decide))).mono ?_
            rintro r wy ⟨rfl, hb⟩
            (try go_wp2_with fail)
            replace HX := Lib.hid (HX.out.later hb)
            clear hb
            refine hK.out _ _ ((HX.out.at 0 rfl : (tObj W.heap.size rb _).P _).1.at4) (fun _ => ?_)
            (try simp only [Act.put, List.setIfInBounds_toArray, List.set_cons_zero, List.set_cons_succ])
            clear hK K
            repeat (first | (refine seq_take (v := ?_) rfl ?_ ?_ ?_; rotate_left 1; rfl; (focus (intro wS hSw; obtain ⟨c0, c1, c2, c3⟩ := hSw; go_simp; first | done | with_reducible rfl)); (try simp only [Act.put, List.setIfInBounds_toArray, List.set_cons_zero, List.set_cons_succ])) | (refine seq_skip rfl ?_ ?_; rfl; (try simp only [Act.put, List.setIfInBounds_toArray, List.set_cons_zero, List.set_cons_succ])))
            refine seq_done ?_
            have HXL := Lib.hid (TwoH.less (R := []) HX.out)
            clear HX
            go_wp2_with fail
            go_roundw
            case rel => exact ⟨n + 1, T2, C2, L2, by omega, by go_num, HXL, HT2, HK2, HL2⟩
            case measure => first | omega | (simp [intOf]; done) | (simp [intOf]; omega)
        · subst h
          as_aux_lemma =>
            have HO := Lib.hid (fun w0 (h : TwoH W w0 p c p' c' C2 L2 C2 L2 b kk ee a7 a8 T2 T2 bp bg []) => h.over true (by rw [HPH.out]; rfl))
            obtain ⟨l, hl⟩ : ∃ l, L2.length = l := ⟨_, rfl⟩
            have Hl := Lib.hid hl
            clear hl
            go_wp2_with fail
            refine (HO.out _ HH3.out).mono ?_
            rintro r wd ⟨rfl, hb⟩
            replace HH3 := Lib.hid (HH3.out.later hb)
            clear hb HO
            go_wp2_with fail
            refine (HH3.out.count1 l Hl.out).mono ?_
            rintro r we ⟨rfl, hb⟩
            replace HH3 := Lib.hid (HH3.out.later hb)
            clear hb
            go_wp2_with fail
            refine (HH3.out.count2 l Hl.out).mono ?_
            rintro r wf ⟨rfl, hb⟩
            replace HH3 := Lib.hid (HH3.out.later hb)
            clear hb
            have HX : Hid (TwoH W (wf.alloc (.cells #[.bool true, .int .u64 0, .int .i64 0, .int .i64 0] 47)) p c p' c' C2 L2 C2 L2 b kk ee a7 a8 T2 T2 bp bg [tObj W.heap.size wf.heap.size [.bool true, .int .u64 0, .int .i64 0, .int .i64 0]]) := HH3.out.more (below_new (Below.refl _ _) _) (tObj_ok _ _ _) ⟨IsObj.made wf [.bool true, .int .u64 0, .int .i64 0, .int .i64 0] 47, HH3.out.size⟩ (fun q hq => by cases hq; exact Nat.le_refl _)
            clear HH3

            go_wp2_with fail
            generalize wf.alloc (.cells #[.bool true, .int .u64 0, .int .i64 0, .int .i64 0] 47) = wg at HX ⊢
            generalize wf.heap.size = rb at HX ⊢
            obtain ⟨rv, hrv⟩ : ∃ y, T2.rv = y := ⟨_, rfl⟩
            obtain ⟨rl, hrl⟩ : ∃ y, T2.rlo = y := ⟨_, rfl⟩
            obtain ⟨rh, hrh⟩ : ∃ y, T2.rhi = y := ⟨_, rfl⟩
            have HRE : Hid (T2.reply = replyV true rv rl rh) := by
              show _ = _
              rw [Wk.reply_yes HPH.out, hrv, hrl, hrh]
            refine (HX.out.value HT2.out.ok rv hrv).mono ?_
            rintro r wh ⟨rfl, hb⟩
            replace HX := Lib.hid (HX.out.later hb)
            clear hb hrv
            have HO1 : Hid (IsObj wh rb [.bool true, .int .u64 0, .int .i64 0, .int .i64 0]) := (HX.out.at 0 rfl : (tObj W.heap.size rb _).P wh).1
            have f1 := HO1.out.fz 1
            have c1 := HO1.out.at' 1 _ rfl
            go_wp2_with fail
            clear f1 c1 HO1
            replace HX : Hid (TwoH W (wh.setCell ⟨rb, 1, none⟩ (.int .u64 rv)) p c p' c' C2 L2 C2 L2 b kk ee a7 a8 T2 T2 bp bg [tObj W.heap.size rb [.bool true, .int .u64 rv, .int .i64 0, .int .i64 0]]) := HX.out.setB 0 rfl 1 (.int .u64 rv)
            generalize wh.setCell ⟨rb, 1, none⟩ (.int .u64 rv) = wi at HX ⊢
            refine (HX.out.stamp HPH.out rl rh hrl hrh).mono ?_
            rintro r wj ⟨rfl, hb⟩
            replace HX := Lib.hid (HX.out.later hb)
            clear hb hrl hrh
            have HO1 : Hid (IsObj wj rb [.bool true, .int .u64 rv, .int .i64 0, .int .i64 0]) := (HX.out.at 0 rfl : (tObj W.heap.size rb _).P wj).1
            have f2 := HO1.out.fz 2
            have f3 := HO1.out.fz 3
            have c2 := HO1.out.at' 2 _ rfl
            have c3 := HO1.out.at' 3 _ rfl
            go_wp2_with fail
            clear f2 f3 c2 c3 HO1
            replace HX : Hid (TwoH W ((wj.setCell ⟨rb, 2, none⟩ (.int .i64 rl)).setCell ⟨rb, 3, none⟩ (.int .i64 rh)) p c p' c' C2 L2 C2 L2 b kk ee a7 a8 T2 T2 bp bg [tObj W.heap.size rb [.bool true, .int .u64 rv, .int .i64 rl, .int .i64 rh]]) := (HX.out.setB 0 rfl 2 (.int .i64 rl)).setB 0 rfl 3 (.int .i64 rh)
            generalize (wj.setCell ⟨rb, 2, none⟩ (.int .i64 rl)).setCell ⟨rb, 3, none⟩ (.int .i64 rh) = wk at HX ⊢

            refine wp_region_seqS ((fun w' => At4 w' rb (.bool true) (.int .u64 rv) (.int .i64 rl) (.int .i64 rh))) ((0, true) :: (2, true) :: (1, false) :: (3, true) :: []) (by kernel_rfl) (by kernel_rfl) (by kernel_rfl) (by decide) (fun _ _ _ _ _ h => h) ((HX.out.drew.at 0 rfl : (tObj W.heap.size rb _).P _).1.at4) ?_
            replace HX := Lib.hid HX.out.drew
            repeat (first | (refine seq_take (v := ?_) rfl ?_ ?_ ?_; rotate_left 1; rfl; (focus (intro wS hSw; obtain ⟨c0, c1, c2, c3⟩ := hSw; go_simp; first | done | with_reducible rfl)); (try simp only [Act.put, List.setIfInBounds_toArray, List.set_cons_zero, List.set_cons_succ])) | (refine seq_skip rfl ?_ ?_; rfl; (try simp only [Act.put, List.setIfInBounds_toArray, List.set_cons_zero, List.set_cons_succ])))
            refine seq_run rfl (fun K hK => ?_)
            go_simp
            go_at_call 17
            refine (HX.out.reply HT2.out.ok (replyV true rv rl rh) (HRE.out)).mono ?_
            rintro r wy ⟨rfl, hb⟩
            (try go_wp2_with fail)
            replace HX := Lib.hid (HX.out.later hb)
            clear hb
            refine hK.out _ _ ((HX.out.at 0 rfl : (tObj W.heap.size rb _).P _).1.at4) (fun _ => ?_)
            (try simp only [Act.put, List.setIfInBounds_toArray, List.set_cons_zero, List.set_cons_succ])
            clear hK K
            repeat (first | (refine seq_take (v := ?_) rfl ?_ ?_ ?_; rotate_left 1; rfl; (focus (intro wS hSw; obtain ⟨c0, c1, c2, c3⟩ := hSw; go_simp; first | done | with_reducible rfl)); (try simp only [Act.put, List.setIfInBounds_toArray, List.set_cons_zero, List.set_cons_succ])) | (refine seq_skip rfl ?_ ?_; rfl; (try simp only [Act.put, List.setIfInBounds_toArray, List.set_cons_zero, List.set_cons_succ])))
            refine seq_done ?_
            have HXL := Lib.hid (TwoH.less (R := []) HX.out)
            clear HX
            go_wp2_with fail
            go_roundw
            case rel => exact ⟨n + 1, T2, C2, L2, by omega, by go_num, HXL, HT2, HK2, HL2⟩
            case measure => first | omega | (simp [intOf]; done) | (simp [intOf]; omega)
        · obtain ⟨g0, g1⟩ := h
          have g2 : (ph != 0) = true := by simp [g0]
          have g3 : (ph == 1) = false := by simp [g1]
          as_aux_lemma =>
            have HO := Lib.hid (fun w0 (h : TwoH W w0 p c p' c' C2 L2 C2 L2 b kk ee a7 a8 T2 T2 bp bg []) => h.over true (by rw [HPH.out]; exact g2))
            obtain ⟨l, hl⟩ : ∃ l, L2.length = l := ⟨_, rfl⟩
            have Hl := Lib.hid hl
            clear hl
            go_wp2_with fail
            refine (HO.out _ HH3.out).mono ?_
            rintro r wd ⟨rfl, hb⟩
            replace HH3 := Lib.hid (HH3.out.later hb)
            clear hb HO
            go_wp2_with fail
            refine (HH3.out.count1 l Hl.out).mono ?_
            rintro r we ⟨rfl, hb⟩
            replace HH3 := Lib.hid (HH3.out.later hb)
            clear hb
            go_wp2_with fail
            refine (HH3.out.count2 l Hl.out).mono ?_
            rintro r wf ⟨rfl, hb⟩
            replace HH3 := Lib.hid (HH3.out.later hb)
            clear hb
            have HX : Hid (TwoH W (wf.alloc (.cells #[.bool false, .int .u64 0, .int .i64 0, .int .i64 0] 47)) p c p' c' C2 L2 C2 L2 b kk ee a7 a8 T2 T2 bp bg [tObj W.heap.size wf.heap.size [.bool false, .int .u64 0, .int .i64 0, .int .i64 0]]) := HH3.out.more (below_new (Below.refl _ _) _) (tObj_ok _ _ _) ⟨IsObj.made wf [.bool false, .int .u64 0, .int .i64 0, .int .i64 0] 47, HH3.out.size⟩ (fun q hq => by cases hq; exact Nat.le_refl _)
            clear HH3

            go_wp2_with fail
            generalize wf.alloc (.cells #[.bool false, .int .u64 0, .int .i64 0, .int .i64 0] 47) = wg at HX ⊢
            generalize wf.heap.size = rb at HX ⊢

            refine wp_region_seqS ((fun w' => At4 w' rb (.bool false) (.int .u64 0) (.int .i64 0) (.int .i64 0))) ((0, true) :: (2, true) :: (1, false) :: (3, true) :: []) (by kernel_rfl) (by kernel_rfl) (by kernel_rfl) (by decide) (fun _ _ _ _ _ h => h) ((HX.out.drew.at 0 rfl : (tObj W.heap.size rb _).P _).1.at4) ?_
            replace HX := Lib.hid HX.out.drew
            repeat (first | (refine seq_take (v := ?_) rfl ?_ ?_ ?_; rotate_left 1; rfl; (focus (intro wS hSw; obtain ⟨c0, c1, c2, c3⟩ := hSw; go_simp; first | done | with_reducible rfl)); (try simp only [Act.put, List.setIfInBounds_toArray, List.set_cons_zero, List.set_cons_succ])) | (refine seq_skip rfl ?_ ?_; rfl; (try simp only [Act.put, List.setIfInBounds_toArray, List.set_cons_zero, List.set_cons_succ])))
            refine seq_run rfl (fun K hK => ?_)
            go_simp
            go_at_call 17
            refine (HX.out.reply HT2.out.ok (replyV false 0 0 0) (Wk.reply_no (by rw [HPH.out]; exact g1))).mono ?_
            rintro r wy ⟨rfl, hb⟩
            (try go_wp2_with fail)
            replace HX := Lib.hid (HX.out.later hb)
            clear hb
            refine hK.out _ _ ((HX.out.at 0 rfl : (tObj W.heap.size rb _).P _).1.at4) (fun _ => ?_)
            (try simp only [Act.put, List.setIfInBounds_toArray, List.set_cons_zero, List.set_cons_succ])
            clear hK K
            repeat (first | (refine seq_take (v := ?_) rfl ?_ ?_ ?_; rotate_left 1; rfl; (focus (intro wS hSw; obtain ⟨c0, c1, c2, c3⟩ := hSw; go_simp; first | done | with_reducible rfl)); (try simp only [Act.put, List.setIfInBounds_toArray, List.set_cons_zero, List.set_cons_succ])) | (refine seq_skip rfl ?_ ?_; rfl; (try simp only [Act.put, List.setIfInBounds_toArray, List.set_cons_zero, List.set_cons_succ])))
            refine seq_done ?_
            have HXL := Lib.hid (TwoH.less (R := []) HX.out)
            clear HX
            go_wp2_with fail
            go_roundw
            case rel => exact ⟨n + 1, T2, C2, L2, by omega, by go_num, HXL, HT2, HK2, HL2⟩
            case measure => first | omega | (simp [intOf]; done) | (simp [intOf]; omega)
    · skip
      as_aux_lemma =>
        obtain rfl : n = 200 := by omega
        obtain ⟨l, hl⟩ : ∃ l : Nat, L.length = l := ⟨_, rfl⟩
        have HLl := Lib.hid hl
        have hl200 : l ≤ 300 := by have := HL.out; omega
        have hLn : L.length ≤ 300 := by omega
        have HOV : Hid (T.ph ≠ 0) := HT.out.over (by omega) (by decide)
        clear HT HK hl HL
        obtain ⟨vm1, hm1⟩ := HH.out.mem1
        have HM1 := Lib.hid hm1
        clear hm1
        go_wp2_with fail
        refine (log_any W.heap.size _ p c _ _ L HM1.out (by omega)).mono ?_
        rintro r w5 ⟨lv, rfl, hrow, hb5⟩
        replace HH := Lib.hid (HH.out.later hb5)
        clear hb5 HM1
        obtain ⟨A1, cap1, rfl⟩ := own_shape hrow
        have HA1 := Lib.hid (fun hne => GAtE.row hrow hne)
        have HC1 : Hid (L.length ≤ cap1) := by
          rcases hrow.2 with ⟨hv, h0⟩ | ⟨g, cap', cur, hv, _, _, hnc, _⟩
          · show _ ≤ _; omega
          · cases hv; exact hnc
        clear hrow
        obtain ⟨vm2, hm2⟩ := HH.out.mem2
        have HM2 := Lib.hid hm2
        clear hm2
        go_wp2_with fail
        refine (log_any W.heap.size _ p' c' _ _ L HM2.out (by omega)).mono ?_
        rintro r w6 ⟨lv, rfl, hrow, hb6⟩
        have HB6 := Lib.hid hb6
        replace HH := Lib.hid (HH.out.later hb6)
        clear hb6 HM2
        obtain ⟨A2, cap2, rfl⟩ := own_shape hrow
        have HA2 := Lib.hid (fun hne => GAtE.row hrow hne)
        have HC2 : Hid (L.length ≤ cap2) := by
          rcases hrow.2 with ⟨hv, h0⟩ | ⟨g, cap', cur, hv, _, _, hnc, _⟩
          · show _ ≤ _; omega
          · cases hv; exact hnc
        clear hrow
        rw [HLl.out]
        have HW6 := Lib.hid (Below.refl w6.heap.size w6)
        go_wp2_with fail
        go_loopw [140] (fun i wr => ∃ j : Nat, j ≤ l ∧ i = .int .i64 j ∧ Hid (Below w6.heap.size w6 wr)) (fun i _ => l - (intOf i).toNat)
        case atStart => exact ⟨0, by omega, rfl, HW6⟩
        case round =>
          clear HW6
          obtain ⟨j, hj, rfl, HW6⟩ := hrel
          rcases Nat.lt_or_ge j l with hjl | hjl
          · have hjl' : (j : Int) < (l : Int) := by omega
            have hne : L ≠ [] := fun h => by have := HLl.out; rw [h] at this; simp at this; omega
            obtain ⟨g1, o1, rfl, hg1, hc1⟩ := HA1.out hne
            obtain ⟨g2, o2, rfl, hg2, hc2⟩ := HA2.out hne
            obtain ⟨e, he⟩ : ∃ e : Ev, L[j]? = some e := ⟨_, List.getElem?_eq_getElem (by rw [HLl.out]; exact hjl)⟩
            obtain ⟨x0, x1, x2, x3, x4, x5⟩ := hc1 j e he
            obtain ⟨y0, y1, y2, y3, y4, y5⟩ := hc2 j e he
            have hbb : Below w5.heap.size w5 wr := below_step' HB6.out HW6.out HB6.out.size
            replace x0 := (hbb.cell (p := ⟨g1, _, none⟩) hg1).trans x0
            replace x1 := (hbb.cell (p := ⟨g1, _, none⟩) hg1).trans x1
            replace x2 := (hbb.cell (p := ⟨g1, _, none⟩) hg1).trans x2
            replace x3 := (hbb.cell (p := ⟨g1, _, none⟩) hg1).trans x3
            replace x4 := (hbb.cell (p := ⟨g1, _, none⟩) hg1).trans x4
            replace x5 := (hbb.cell (p := ⟨g1, _, none⟩) hg1).trans x5
            replace y0 := (HW6.out.cell (p := ⟨g2, _, none⟩) hg2).trans y0
            replace y1 := (HW6.out.cell (p := ⟨g2, _, none⟩) hg2).trans y1
            replace y2 := (HW6.out.cell (p := ⟨g2, _, none⟩) hg2).trans y2
            replace y3 := (HW6.out.cell (p := ⟨g2, _, none⟩) hg2).trans y3
            replace y4 := (HW6.out.cell (p := ⟨g2, _, none⟩) hg2).trans y4
            replace y5 := (HW6.out.cell (p := ⟨g2, _, none⟩) hg2).trans y5
            obtain ⟨ewho, eop, ecell, eold, enew, eok⟩ := e
            simp only at x0 x1 x2 x3 x4 x5 y0 y1 y2 y3 y4 y5
            have hc1' := HC1.out
            have hc2' := HC2.out
            rw [HLl.out] at hc1' hc2'
            clear hc1 hc2 he hbb hne
            go_wp2_with fail
            refine wp_region_seqS ((fun w' => (w'.cell? ⟨g1, o1 + j * 6, none⟩ = some (.int .i64 ewho) ∧ w'.cell? ⟨g1, o1 + j * 6 + 1, none⟩ = some (.int .i64 eop) ∧ w'.cell? ⟨g1, o1 + j * 6 + 2, none⟩ = some (.int .i64 ecell) ∧ w'.cell? ⟨g1, o1 + j * 6 + 3, none⟩ = some (.int .u64 eold) ∧ w'.cell? ⟨g1, o1 + j * 6 + 4, none⟩ = some (.int .u64 enew) ∧ w'.cell? ⟨g1, o1 + j * 6 + 5, none⟩ = some (.bool eok)) ∧ (w'.cell? ⟨g2, o2 + j * 6, none⟩ = some (.int .i64 ewho) ∧ w'.cell? ⟨g2, o2 + j * 6 + 1, none⟩ = some (.int .i64 eop) ∧ w'.cell? ⟨g2, o2 + j * 6 + 2, none⟩ = some (.int .i64 ecell) ∧ w'.cell? ⟨g2, o2 + j * 6 + 3, none⟩ = some (.int .u64 eold) ∧ w'.cell? ⟨g2, o2 + j * 6 + 4, none⟩ = some (.int .u64 enew) ∧ w'.cell? ⟨g2, o2 + j * 6 + 5, none⟩ = some (.bool eok)))) ((0, true) :: (1, true) :: (2, true) :: (3, true) :: (4, true) :: (5, true) :: (6, true) :: (7, true) :: (8, true) :: []) (by kernel_rfl) (by kernel_rfl) (by kernel_rfl) (by decide) (fun _ _ _ _ _ h => h) (⟨⟨x0, x1, x2, x3, x4, x5⟩, y0, y1, y2, y3, y4, y5⟩) ?_
            have HW7 : Hid (Below w6.heap.size w6 wr.drew) := HW6.out.drew
            clear x0 x1 x2 x3 x4 x5 y0 y1 y2 y3 y4 y5
            repeat (first | (refine seq_take (v := ?_) rfl ?_ ?_ ?_; rotate_left 1; rfl; (focus (intro wS hSw; obtain ⟨⟨x0, x1, x2, x3, x4, x5⟩, y0, y1, y2, y3, y4, y5⟩ := hSw; go_simp; first | done | with_reducible rfl)); (try simp only [Act.put, List.setIfInBounds_toArray, List.set_cons_zero, List.set_cons_succ])) | (refine seq_skip rfl ?_ ?_; rfl; (try simp only [Act.put, List.setIfInBounds_toArray, List.set_cons_zero, List.set_cons_succ])))
            refine seq_done ?_
            clear hc1' hc2'
            go_wp2_with fail
            go_roundw
            case rel => exact ⟨j + 1, by omega, by go_num, HW7⟩
            case measure => first | omega | (simp [intOf]; done) | (simp [intOf]; omega)
          · have hjl' : ¬ (j : Int) < (l : Int) := by omega
            have HHf := Lib.hid (HH.out.later HW6.out)
            go_wp2_with fail
            refine (HHf.out.over true (by simp; exact HOV.out)).mono ?_
            rintro r wz ⟨rfl, hb⟩
            have hbf := Lib.hid (below_step' HB.out (HHf.out.later hb).below HB.out.size)
            clear hb
            go_wp2_with fail
            go_ret
            exact ⟨rfl, hbf.out⟩

end Go.Proofs.Ytemaghebpnjmoaa
