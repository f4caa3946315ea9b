/-
  GetAlone answers true for all lists and numbers, and leaves all memory that was there as it was. No condition.
-/
import Derived.Test.YtoogdfjlodchhaaGetCells
import Derived.Test.YtoogdfjlodchhaaWalkMemSums
import Derived.Deep.DeepCutAuto
namespace Go.Proofs.Ytoogdfjlodchhaa
open Go.RowKit
set_option linter.unusedVariables false

/-- A step of a get alone is one event. -/
theorem GA.ev1 {k : Ge} {N hz i : Nat} {C C0 : List Int} (h : GA k C C0 N hz i) (hp : k.ph = 0) : (k.ev N hz C).length = 1 := by
  have hnp : ¬ k.ph ≠ 0 := by omega
  rcases h.at' with ⟨_, hta, hC, hi, st, hs⟩ | ⟨j, r, hi, hr, _, hj, hE, hta, hC⟩ | ⟨_, h2, _⟩ | ⟨j, _, h2, _⟩
  · have e : k.ev N hz C = k.sn.ev C := by unfold Ge.ev; rw [if_neg hnp, hta]
    rw [e]
    unfold Sn.ev
    rw [if_pos (h.ok.sn hp hta).2]
    rfl
  · obtain ⟨a, hae⟩ : ∃ a, a = tk k C0 N j r := ⟨_, rfl⟩
    rw [← hae] at hta
    have ap : a.ph = 0 := by rw [hae]; rfl
    have e : k.ev N hz C = a.ev a.slot.toNat (N + a.slot.toNat) hz C := by unfold Ge.ev; rw [if_neg hnp, hta]
    rw [e]
    unfold Ta.ev
    rw [if_neg (by omega)]
    split
    · rfl
    · split
      · rfl
      · split
        · rfl
        · split
          · split <;> rfl
          · rfl
  · omega
  · omega
theorem thC_hi {X : Nat → Th} {N M : Nat} : ∀ (e j : Nat), e ≤ N → 2 * N ≤ j → (thC X N (List.replicate M 0) e).getD j 0 = 0
  | 0, j, _, _ => by show (List.replicate M 0).getD j 0 = 0; rw [gzeros]
  | e + 1, j, he, hj => by
    rw [thC, getD_set_ne' _ (by omega), getD_set_ne' _ (by omega)]
    exact thC_hi e j (by omega) hj
theorem row_at0 (W : World) (a : Option Addr) (cap N : Nat) (ws : List Int) (hl : ws.length = N) (hW : IsWs W a ws) (hn : N ≤ 100000) :
    Calls Try.prog 55 #[.slice a N cap] W fun r w' => ∃ b cp S, r = .returned (.slice b S.length cp) ∧ IsOrder ws S ∧ w'.ownsRow W.heap.size 3 1 (.slice b S.length cp) S.length (S.map (fun i : Nat => i64 (i : Int))) ∧ Below W.heap.size W w' := by
  subst hl
  refine (row_own W a cap ws hW hn).mono ?_
  rintro r w' ⟨v, S, h1, h2, ⟨b, cp, h3, h4, h5⟩, h6, h7⟩
  subst h3
  exact ⟨b, cp, S, h1, h2, h7, h6⟩
theorem ints_at {w : World} {base : Nat} {b : Option Addr} {cp : Nat} {S : List Nat} (h : w.ownsRow base 3 1 (.slice b S.length cp) S.length (S.map (fun i : Nat => i64 (i : Int)))) (h0 : 0 < S.length) : ∃ g, b = some ⟨g, 0, none⟩ ∧ ∀ q, q < S.length → w.cell? ⟨g, q, none⟩ = some (i64 (S.getD q 0 : Nat)) := by
  obtain ⟨g, cap, h1, _⟩ := row_shape h h0
  cases h1
  refine ⟨g, rfl, fun q hq => ?_⟩
  rw [h.cellAt q (by omega), List.getElem?_map, List.getD_eq_getElem?_getD, List.getElem?_eq_getElem hq]
  rfl
theorem count0_at (base : Nat) (w : World) (p c : Nat) (v : Value) (C : List Int) (L : List Ev) (l : Nat) (hM : IsMem base w p c v C L) (hl : L.length = l) :
    Calls Try.prog 35 #[pt p] w fun r w' => r = .returned (i64 l) ∧ Below w.heap.size w w' := hl ▸ quiet_below (count_any base w p c v C L hM)

set_option maxRecDepth 100000 in
set_option maxHeartbeats 8000000 in
theorem walk_GetAlone (a0 : Int) (a1 : Int) (a2 : Int) (a3 : Int) (a4 : Bool) (a5 : Option Addr) (len5 cap5 : Nat) (w : World) (w0 : (Lit.int .i64 a0).wf = true) (w1 : (Lit.int .i64 a1).wf = true) (w2 : (Lit.int .i64 a2).wf = true) (w3 : (Lit.int .i64 a3).wf = true) (w5 : IsRows w [.inl .i64, .inl .i64, .inl .i64, .inl .i64, .inr true, .inl .u64] a5 len5 cap5) :
    Calls Try.prog 9 #[.int .i64 a0, .int .i64 a1, .int .i64 a2, .int .i64 a3, .bool a4, .slice a5 len5 cap5] w fun e w' => e = .returned (.bool true) ∧ Below w.heap.size w w' := by
  clear w0 w1 w2 w3
  rcases Nat.lt_or_ge 64 len5 with hbig | hs5
  · have hbig' : (64 : Int) < (len5 : Int) := by omega
    clear w5
    go_enter Try.func9, Try.ntmps9
    go_wp2_with fail
    refine (head11_any _).mono ?_
    rintro e w1 ⟨rfl, hb1⟩
    go_wp2_with fail
    go_ret
    exact ⟨rfl, hb1⟩
  have p5 : decide ((64 : Int) < (len5 : Int)) = false := decide_eq_false (by omega)
  obtain ⟨tb, off, X, hX⟩ := rows_things w5
  have HX : Hid (IsThs w a5 len5 cap5 tb off X) := hX
  obtain ⟨uw, huw, lw, gw⟩ : ∃ u, bits .and .i64 a2 65535 = u ∧ 0 ≤ u ∧ u ≤ 65535 := ⟨_, and_ffff a2, by omega, by omega⟩
  clear w5 hX
  go_enter Try.func9, Try.ntmps9
  go_wp2_with fail
  refine (head11_any _).mono ?_
  rintro e w1 ⟨rfl, hb1⟩
  go_wp2_with fail
  refine (conf2_any _ _ _).mono ?_
  rintro e w2 ⟨t, s, rfl, t1, t2, s1, s2, hb2⟩
  have ht0 : (t == 0) = false := by simp; omega
  have hB2 := Lib.hid (below_step hb1 hb2)
  clear hb1 hb2
  obtain ⟨N, hNe, hlay, hN1, hN2⟩ := lay44 t1 t2 s1 s2
  have hn0 : ¬ N = 0 := by omega
  clear hNe
  go_wp2_with fail
  have hw0 := Int.emod_nonneg uw (show t ≠ 0 by omega)
  have hw1 := Int.emod_lt_of_pos uw (show 0 < t by omega)
  generalize uw % t = who at hw0 hw1 ⊢
  clear huw lw gw
  have hA := AtC.made w2 t s 0 0
  have hB3 := below_new (Below.refl w2.heap.size w2) (.cells #[.int .i64 t, .int .i64 s, .int .i64 0, .int .i64 0] 29)
  have hs3 : w2.heap.size < (w2.alloc (.cells #[.int .i64 t, .int .i64 s, .int .i64 0, .int .i64 0] 29)).heap.size := by simp
  have HA := Lib.hid hA
  have HB := Lib.hid (below_step hB2.out hB3)
  have Hs := Lib.hid hs3
  clear hA hB3 hs3 hB2
  generalize w2.alloc (.cells #[.int .i64 t, .int .i64 s, .int .i64 0, .int .i64 0] 29) = W at HA HB Hs ⊢
  generalize w2.heap.size = cb at HA Hs ⊢
  clear w2 w1
  obtain ⟨M, hM⟩ : ∃ M : Nat, 2 * (N : Int) + 2 * t = (M : Int) := ⟨(2 * (N : Int) + 2 * t).toNat, by omega⟩
  have HM := Lib.hid hM
  clear hM
  refine (things_any W.heap.size t s 0 0 N M HM.out a5 len5 cap5 tb off X _ hlay (Nat.le_refl _) (HX.out.later HB.out (fun i hi => (HX.out i hi).2.2.1))).mono ?_
  rintro r w3 ⟨p, c, v0, rfl, hM3, hb3, hf3⟩
  have HH1 : Hid (Hold W w3 [tMem W.heap.size p c v0 (thC X N (List.replicate M 0) (min N len5)) (thL X N (List.replicate M 0) (min N len5))]) := (Hold.nil (Below.refl _ _)).more hb3 (tMem_ok _ _ _ _ _ _) hM3 hf3
  have hzero : ∀ j, 2 * N ≤ j → (thC X N (List.replicate M 0) (min N len5)).getD j 0 = 0 := fun j hj => thC_hi _ j (Nat.min_le_left _ _) hj
  clear hM3 hb3 hf3 HX
  obtain ⟨C0, hC0⟩ : ∃ C0, thC X N (List.replicate M 0) (min N len5) = C0 := ⟨_, rfl⟩
  obtain ⟨L0, hL0⟩ : ∃ L0, thL X N (List.replicate M 0) (min N len5) = L0 := ⟨_, rfl⟩
  have HCL : Hid ((C0.length : Int) = 2 * N + 2 * t) := by show _ = _; rw [← hC0, thC_len, List.length_replicate]; exact HM.out.symm
  have HLL : Hid (L0.length ≤ 100 + 0) := by show _ ≤ _; rw [← hL0, thL_len]; omega
  rw [hC0, hL0] at HH1
  have HC0F := Lib.hid (take_fit (Hold.first HH1.out).fit N)
  rw [hC0] at hzero
  have HZ0 := Lib.hid hzero
  clear hC0 hL0 hzero
  obtain ⟨ws, hws⟩ : ∃ ws, C0.take N = ws := ⟨_, rfl⟩
  rw [hws] at HC0F
  have Hws := Lib.hid hws
  have Hwl : Hid (ws.length = N) := by show _ = _; rw [← hws, List.length_take]; have := HCL.out; omega
  obtain ⟨l0, hl0⟩ : ∃ l, L0.length = l := ⟨_, rfl⟩
  have hl1 : l0 ≤ 100 := by rw [← hl0]; exact HLL.out
  have Hl0 := Lib.hid hl0
  clear hws hl0
  obtain ⟨q0, q1, q2, q3⟩ := HA.out.later HH1.out.below Hs.out
  go_wp2_with fail
  refine (words_at W.heap.size t s 0 0 N p c v0 C0 ws L0 _ hlay HH1.out.first (by have := HCL.out; omega) Hws.out Hwl.out).mono ?_
  rintro r w4 ⟨g, cap, rfl, hcap, hg1, hg2, hrow, hWW, hb4⟩
  have HW1 := Lib.hid hWW
  have HH2 : Hid (Hold W w4 [tMem W.heap.size p c v0 C0 L0, tRow W.heap.size 24 1 (.slice (some ⟨g, 0, none⟩) N cap) N (ws.map (Value.int .u64))]) := Hold.more HH1.out hb4 (tRow_ok _ _ _ _ _ _) (row_base hrow HH1.out.size) (fun q hq => by cases hq; exact hg1)
  clear hb4 hrow q0 q1 q2 q3 hg1 hg2 hWW HH1
  go_wp2_with fail
  refine (row_at0 _ _ cap N ws Hwl.out HW1.out (by omega)).mono ?_
  rintro r w5 ⟨rb, rc, S, rfl, hord, hown, hb5⟩
  have HORD := Lib.hid hord
  have HH3 : Hid (Hold W w5 [tMem W.heap.size p c v0 C0 L0, tRow W.heap.size 24 1 (.slice (some ⟨g, 0, none⟩) N cap) N (ws.map (Value.int .u64)), tRow W.heap.size 3 1 (.slice rb S.length rc) S.length (S.map (fun i : Nat => i64 (i : Int)))]) := Hold.more HH2.out hb5 (tRow_ok _ _ _ _ _ _) (row_base hown HH2.out.size) (fun q hq => (hown.lt q hq).1)
  clear hb5 HW1 hord hown HH2
  go_wp2_with fail
  refine (count0_at W.heap.size _ p c v0 C0 L0 l0 HH3.out.first Hl0.out).mono ?_
  rintro r w6 ⟨rfl, hb6⟩
  have HH4 := Lib.hid (Hold.later HH3.out hb6)
  clear hb6 HH3
  obtain ⟨q0, q1, q2, q3⟩ := HA.out.later (Hold.below HH4.out) Hs.out
  obtain ⟨ee, hee, hee2⟩ : ∃ e : Int, (if a4 then (1 : Int) else 0) = e ∧ (e = 0 ∨ e = 1) := ⟨_, rfl, by cases a4 <;> simp⟩
  have Hee := Lib.hid hee
  clear hee
  go_wp2_with fail
  refine wp_region_seqS ((fun w' => AtC w' cb t s 0 0)) ((0, true) :: (1, true) :: (2, true) :: (4, true) :: (3, false) :: (5, false) :: (6, true) :: []) (by kernel_rfl) (by kernel_rfl) (by kernel_rfl) (by decide) (fun _ _ _ _ _ h => h) ((HA.out.later (Hold.below (Hold.drew HH4.out)) Hs.out)) ?_
  replace HH4 := Lib.hid (Hold.drew HH4.out)
  clear q0 q1 q2 q3
  repeat (first | (refine seq_take (v := ?_) rfl ?_ ?_ ?_; rotate_left 1; rfl; (focus (intro wS hSw; obtain ⟨k0, k1, k2, k3⟩ := hSw; go_simp; first | done | with_reducible rfl)); (try simp only [Act.put, List.setIfInBounds_toArray, List.set_cons_zero, List.set_cons_succ])) | (refine seq_skip rfl ?_ ?_; rfl; (try simp only [Act.put, List.setIfInBounds_toArray, List.set_cons_zero, List.set_cons_succ])))
  refine seq_run rfl (fun K hK => ?_)
  go_simp
  go_at_call 57
  refine (end_at a4 ee _ Hee.out).mono ?_
  rintro r w7 ⟨rfl, hb7⟩
  (try go_wp2_with fail)
  replace HH4 := Lib.hid (Hold.later HH4.out hb7)
  clear hb7
  refine hK.out _ _ ((HA.out.later (Hold.below HH4.out) Hs.out)) (fun _ => ?_)
  (try simp only [Act.put, List.setIfInBounds_toArray, List.set_cons_zero, List.set_cons_succ])
  clear hK K
  repeat (first | (refine seq_take (v := ?_) rfl ?_ ?_ ?_; rotate_left 1; rfl; (focus (intro wS hSw; obtain ⟨k0, k1, k2, k3⟩ := hSw; go_simp; first | done | with_reducible rfl)); (try simp only [Act.put, List.setIfInBounds_toArray, List.set_cons_zero, List.set_cons_succ])) | (refine seq_skip rfl ?_ ?_; rfl; (try simp only [Act.put, List.setIfInBounds_toArray, List.set_cons_zero, List.set_cons_succ])))
  refine seq_run rfl (fun K hK => ?_)
  go_simp
  go_at_call 56
  refine (genew_any W.heap.size _ N t s 0 0 who ee a3 hlay (Hold.size HH4.out)).mono ?_
  rintro r w8 ⟨b, bs, gs, rfl, hS8, hb8, hbb8⟩
  (try go_wp2_with fail)
  have HH5 : Hid (GeH W w8 p c C0 L0 b (ge0 t s 0 0 who ee a3 N) [tRow W.heap.size 24 1 (.slice (some ⟨g, 0, none⟩) N cap) N (ws.map (Value.int .u64)), tRow W.heap.size 3 1 (.slice rb S.length rc) S.length (S.map (fun i : Nat => i64 (i : Int)))]) := GeH.begun2 HH4.out hb8 hS8 hbb8
  clear hS8 hb8 hbb8 HH4
  refine hK.out _ _ ((HA.out.later HH5.out.below Hs.out)) (fun _ => ?_)
  (try simp only [Act.put, List.setIfInBounds_toArray, List.set_cons_zero, List.set_cons_succ])
  clear hK K
  repeat (first | (refine seq_take (v := ?_) rfl ?_ ?_ ?_; rotate_left 1; rfl; (focus (intro wS hSw; obtain ⟨k0, k1, k2, k3⟩ := hSw; go_simp; first | done | with_reducible rfl)); (try simp only [Act.put, List.setIfInBounds_toArray, List.set_cons_zero, List.set_cons_succ])) | (refine seq_skip rfl ?_ ?_; rfl; (try simp only [Act.put, List.setIfInBounds_toArray, List.set_cons_zero, List.set_cons_succ])))
  refine seq_done ?_
  obtain ⟨hz, hhz⟩ : ∃ hz : Nat, (hz : Int) = 2 * N + who := ⟨(2 * N + who).toNat, by omega⟩
  have HG0 : Hid (GA (ge0 t s 0 0 who ee a3 N) C0 C0 N hz 0) := GA.start hlay HCL.out hhz hw0 hw1 hee2
  have HE0 : Hid ((ge0 t s 0 0 who ee a3 N).e = ee) := rfl
  have Hhz := Lib.hid hhz
  have HLL0 : Hid (L0.length = l0 + 0) := Hl0.out
  clear hhz
  go_wp2_with fail
  go_loopw [19] (fun i wr => ∃ (n : Nat) (k : Ge) (C : List Int) (L : List Ev), n ≤ 2 * N + 5 ∧ i = .int .i64 n ∧ Hid (GeH W wr p c C L b k [tRow W.heap.size 24 1 (.slice (some ⟨g, 0, none⟩) N cap) N (ws.map (Value.int .u64)), tRow W.heap.size 3 1 (.slice rb S.length rc) S.length (S.map (fun i : Nat => i64 (i : Int)))]) ∧ Hid (GA k C C0 N hz n) ∧ Hid (k.e = ee) ∧ Hid (L.length = l0 + n)) (fun i _ => 100 - (intOf i).toNat)
  case atStart => exact ⟨0, _, _, _, by omega, rfl, HH5, HG0, HE0, HLL0⟩
  case round =>
    clear HH5 HG0 HE0 HLL0
    obtain ⟨n, k, C, L, hn, rfl, HH, HG, HE, HL⟩ := hrel
    rcases HG.out.cases with ⟨hp, hlt⟩ | ⟨hp, hph, hE, hC⟩ | ⟨j, hp, hph, hj, hE, hval, hta, hC⟩
    · have HPH := Lib.hid (HH.out.phase 0 hp)
      have HF := Lib.hid HH.out.fit
      have HP0 := Lib.hid hp
      clear hp hlt
      go_wp2_with fail
      refine HPH.out.mono ?_
      rintro r wr2 ⟨rfl, hb⟩
      replace HH := Lib.hid (HH.out.later hb)
      clear hb HPH
      have hnn : (n : Int) < 200 := by omega
      go_wp2_with fail
      refine (HH.out.call HG.out.ok (by have := HL.out; omega)).mono ?_
      rintro r wr3 ⟨z, hz3, rfl, hH⟩
      have HG2 := Lib.hid (HG.out.step HP0.out hz3 HF.out)
      have HH2 := Lib.hid hH
      have HL2 := Lib.hid (HG.out.ev1 HP0.out)
      have HE2 : Hid ((k.step N hz C z).e = ee) := by show _ = _; rw [(k.step_same N hz C z).e]; exact HE.out
      have HN2 : Hid (n + 1 ≤ 2 * N + 5) := by
        rcases HG2.out.cases with ⟨_, h1⟩ | ⟨h1, _⟩ | ⟨_, h1, _⟩
        · show _ ≤ _; omega
        · show _ ≤ _; omega
        · show _ ≤ _; omega
      clear hH hz3 HG HH HE
      go_wp2_with fail
      go_roundw
      case rel => exact ⟨n + 1, _, _, _, HN2.out, by go_num, HH2, HG2, HE2, by have := HL.out; have := HL2.out; show _ = _; rw [List.length_append]; omega⟩
      case measure => first | omega | (simp [intOf]; done) | (simp [intOf]; omega)
    · obtain rfl : n = 2 * N := hp
      subst hC
      have hS : S = [] := by
        rw [HE.out, Hws.out] at hE
        rcases end_of_order HORD.out hE with ⟨h1, _⟩ | ⟨j, h1, _⟩
        · exact h1
        · omega
      have HV : Hid (k.val = 0) := by show _ = _; unfold Ge.val; rw [if_neg (by omega)]
      have HPK : Hid (C[hz]? = some 0) := by
        have := getD_at (C := C) (i := hz) (by have := HCL.out; have := Hhz.out; omega)
        show _ = _
        rw [this, HZ0.out hz (by have := Hhz.out; omega)]
      have HTR := Lib.hid HG.out.tries
      have HPP := Lib.hid hph
      subst hS
      have hl0' : (([] : List Nat).length : Int) = 0 := rfl
      clear hph hE HG HORD HE
      go_wp2_with fail
      refine (HH.out.phase 2 HPP.out).mono ?_
      rintro r wr2 ⟨rfl, hb⟩
      replace HH := Lib.hid (HH.out.later hb)
      clear hb
      obtain ⟨v1, hm⟩ := HH.out.mem
      have HM1 := Lib.hid hm
      clear hm
      have hcs : wrap64 ((l0 : Int) + ((2 * N : Nat) : Int)) = ((l0 + 2 * N : Nat) : Int) := by unfold wrap64; omega
      go_wp2_with fail
      refine (count0_at W.heap.size _ p c v1 _ L (l0 + 2 * N) HM1.out HL.out).mono ?_
      rintro r wr3 ⟨rfl, hb⟩
      replace HH := Lib.hid (HH.out.later hb)
      replace HM1 := Lib.hid (HM1.out.later hb)
      clear hb
      go_wp2_with fail
      refine (HH.out.tries 0 HTR.out).mono ?_
      rintro r wr4 ⟨rfl, hb⟩
      replace HH := Lib.hid (HH.out.later hb)
      replace HM1 := Lib.hid (HM1.out.later hb)
      clear hb
      obtain ⟨q0, q1, q2, q3⟩ := HA.out.later HH.out.below Hs.out
      go_wp2_with fail
      refine (chazard_any t s 0 0 N who _ hlay hw0 (by omega)).mono ?_
      rintro r wr5 ⟨rfl, hb⟩
      replace HH := Lib.hid (HH.out.later hb)
      replace HM1 := Lib.hid (HM1.out.later hb)
      clear hb q0 q1 q2 q3
      rw [← Hhz.out]
      go_wp2_with fail
      refine (peek_in W.heap.size _ p c _ _ _ hz 0 HM1.out HPK.out).mono ?_
      rintro r wr6 ⟨rfl, rfl⟩
      go_wp2_with fail
      refine (HH.out.phase 2 HPP.out).mono ?_
      rintro r wr7 ⟨rfl, hb⟩
      replace HH := Lib.hid (HH.out.later hb)
      clear hb
      obtain ⟨q0, q1, q2, q3⟩ := HA.out.later HH.out.below Hs.out
      go_wp2_with fail
      refine (call_any t s 0 0 N _ hlay).mono ?_
      rintro r wr8 ⟨rfl, hb⟩
      replace HH := Lib.hid (HH.out.later hb)
      clear hb q0 q1 q2 q3
      go_wp2_with fail
      refine (HH.out.value 0 HV.out (fun h => by have := HPP.out; omega)).mono ?_
      rintro r wr9 ⟨rfl, hb⟩
      replace HH := Lib.hid (HH.out.later hb)
      clear hb
      go_wp2_with fail
      go_ret
      exact ⟨rfl, below_step' HB.out HH.out.below HB.out.size⟩
    · obtain rfl : n = 2 * N + 5 := hp
      rw [HE.out, Hws.out] at hE
      obtain ⟨h0, hs0, hs1⟩ : 0 < S.length ∧ (ee = 0 → S.getD 0 0 = j) ∧ (ee ≠ 0 → S.getD (S.length - 1) 0 = j) := by
        rcases end_of_order HORD.out hE with ⟨h1, h2⟩ | ⟨i, h1, _, _, h2, h3, h4⟩
        · omega
        · obtain rfl : i = j := by omega
          exact ⟨h2, h3, h4⟩
      have hlenC : C.length = C0.length := HG.out.len
      have HPK : Hid (C[hz]? = some 0) := by
        have := getD_at (C := C) (i := hz) (by have := HCL.out; have := Hhz.out; omega)
        show _ = _
        rw [this, hC, getD_set_eq' _ (by rw [tkC_len]; have := HCL.out; have := Hhz.out; omega)]
      have HTR := Lib.hid HG.out.tries
      have HPP := Lib.hid hph
      have HV := Lib.hid hval
      have HTA := Lib.hid hta
      have HCC := Lib.hid hC
      have HS0 := Lib.hid hs0
      have HS1 := Lib.hid hs1
      have HSL := Lib.hid h0
      have HSN : Hid (S.length ≤ N) := by have h1 := HORD.out.len; rw [Hwl.out] at h1; exact h1
      have HJ := Lib.hid hj
      have HLC := Lib.hid hlenC
      obtain ⟨g2, hrb⟩ : ∃ g2, rb = some ⟨g2, 0, none⟩ := by
        obtain ⟨v, bs, gs, bt, hh⟩ := HH.out
        obtain ⟨g2, h1, _⟩ := ints_at (Hold.has hh 3 _ rfl) h0
        exact ⟨g2, h1⟩
      subst hrb
      have hsl1 : (0 : Int) < (S.length : Int) := by omega
      have hsl2 : ((S.length : Int) == 0) = false := beq_false_of_ne (by omega)
      clear hph hE HG HORD HE hval hta hC hs0 hs1 h0 hj hlenC
      go_wp2_with fail
      refine (HH.out.phase 1 HPP.out).mono ?_
      rintro r wr2 ⟨rfl, hb⟩
      replace HH := Lib.hid (HH.out.later hb)
      clear hb
      obtain ⟨v1, hm⟩ := HH.out.mem
      have HM1 := Lib.hid hm
      clear hm
      have hcs : wrap64 ((l0 : Int) + ((2 * N + 5 : Nat) : Int)) = ((l0 + 2 * N + 5 : Nat) : Int) := by unfold wrap64; omega
      go_wp2_with fail
      refine (count0_at W.heap.size _ p c v1 _ L (l0 + 2 * N + 5) HM1.out HL.out).mono ?_
      rintro r wr3 ⟨rfl, hb⟩
      replace HH := Lib.hid (HH.out.later hb)
      replace HM1 := Lib.hid (HM1.out.later hb)
      clear hb
      go_wp2_with fail
      refine (HH.out.tries 0 HTR.out).mono ?_
      rintro r wr4 ⟨rfl, hb⟩
      replace HH := Lib.hid (HH.out.later hb)
      replace HM1 := Lib.hid (HM1.out.later hb)
      clear hb
      obtain ⟨q0, q1, q2, q3⟩ := HA.out.later HH.out.below Hs.out
      go_wp2_with fail
      refine (chazard_any t s 0 0 N who _ hlay hw0 (by omega)).mono ?_
      rintro r wr5 ⟨rfl, hb⟩
      replace HH := Lib.hid (HH.out.later hb)
      replace HM1 := Lib.hid (HM1.out.later hb)
      clear hb q0 q1 q2 q3
      rw [← Hhz.out]
      go_wp2_with fail
      refine (peek_in W.heap.size _ p c _ _ _ hz 0 HM1.out HPK.out).mono ?_
      rintro r wr6 ⟨rfl, rfl⟩
      obtain ⟨v2, bs2, gs2, bt2, hh⟩ := HH.out
      obtain ⟨g3, hg3, hci⟩ := ints_at (Hold.has hh 3 _ rfl) HSL.out
      cases hg3
      have hc0 := hci 0 HSL.out
      have hc1 := hci (S.length - 1) (by have := HSL.out; omega)
      have hx := row_at (Hold.has hh 2 _ rfl) HJ.out
      obtain ⟨x, hxe⟩ : ∃ x, ws.getD j 0 = x := ⟨_, rfl⟩
      obtain ⟨x0, x1⟩ : 0 ≤ x ∧ x ≤ 18446744073709551615 := hxe ▸ HC0F.out j
      rw [hxe] at hx
      have HXE := Lib.hid hxe
      have HHH := Lib.hid hh
      obtain ⟨tx, htx⟩ : ∃ tx, tkW x = tx := ⟨_, rfl⟩
      have HTX := Lib.hid htx
      clear hh hci hxe htx
      cases a4
      · have he0 : ee = 0 := Hee.out.symm
        rw [HS0.out he0] at hc0
        have HE0 := Lib.hid he0
        clear he0 hc1
        go_wp2_with fail
        refine (unpack_any x _ x0 x1).mono ?_
        rintro r wr7 ⟨rfl, hb⟩
        replace HHH := Lib.hid (Hold.later HHH.out hb)
        clear hb hc0 hx
        go_wp2_with fail
        refine (taken_any _ _ _ _ _ _).mono ?_
        rintro r wr8 ⟨rfl, hb⟩
        replace HHH := Lib.hid (Hold.later HHH.out hb)
        clear hb
        go_wp2_with fail
        refine (gpack_at 2 _ _ _ _ tx _ (by omega) HTX.out).mono ?_
        rintro r wr9 ⟨rfl, hb⟩
        replace HHH := Lib.hid (Hold.later HHH.out hb)
        clear hb
        have hx := row_at (Hold.has HHH.out 2 _ rfl) HJ.out
        rw [HXE.out] at hx
        have hrow : World.ownsRow _ _ _ _ _ _ _ := Hold.has HHH.out 2 _ rfl
        have hfn := hrow.frozenAt j
        have hjN' : (j : Int) < (N : Int) := by have := HJ.out; omega
        have HHS : Hid (Hold W (wr9.setCell ⟨g, j, none⟩ (u64 tx)) [tMem W.heap.size p c v2 C L, tGe W.heap.size b bs2 gs2 bt2 k, tRow W.heap.size 24 1 (.slice (some ⟨g, 0, none⟩) N cap) N ((ws.set j tx).map (Value.int .u64)), tRow W.heap.size 3 1 (.slice (some ⟨g2, 0, none⟩) S.length rc) S.length (S.map (fun i : Nat => i64 (i : Int)))]) := by
          have h := Hold.stored HHH.out 2 rfl j (u64 tx)
          rw [← List.map_set] at h
          exact h
        obtain ⟨ws2, hw2⟩ : ∃ ws2, ws.set j tx = ws2 := ⟨_, rfl⟩
        rw [hw2] at HHS
        have Hw2l : Hid (ws2.length = N) := by show _ = _; rw [← hw2, List.length_set]; exact Hwl.out
        have HCW : Hid (C.take N = ws2) := by
          show _ = _
          have h1 := HCC.out
          rw [h1, done_words (by have := Hhz.out; omega), Hws.out, ← hw2, ← HTX.out, ← HXE.out, ← Hws.out, getD_take HJ.out]
        obtain ⟨q0, q1, q2, q3⟩ := HA.out.later (Hold.below HHS.out) Hs.out
        clear hrow hw2
        go_wp2_with fail
        generalize wr9.setCell ⟨g, j, none⟩ (u64 tx) = wz at HHS q0 q1 q2 q3 ⊢
        clear hx hfn
        refine (words_at W.heap.size t s 0 0 N p c v2 C ws2 L _ hlay HHS.out.first (by have := HCL.out; have := HLC.out; omega) HCW.out Hw2l.out).mono ?_
        rintro r wy ⟨g4, cap4, rfl, hcap4, hg1, hg2, hrow4, hWW, hb4⟩
        have HW4 := Lib.hid hWW
        replace HHS := Lib.hid (Hold.later HHS.out hb4)
        clear hb4 hrow4 q0 q1 q2 q3 hg1 hg2 hWW HHH HH HM1
        go_wp2_with fail
        go_loopw [125] (fun i wr => ∃ e : Nat, e ≤ N ∧ i = .int .i64 e ∧ Hid (Below wy.heap.size wy wr)) (fun i _ => N - (intOf i).toNat)
        case atStart => exact ⟨0, by omega, rfl, Below.refl _ _⟩
        case round =>
          obtain ⟨e, he, rfl, HB5⟩ := hrel
          rcases Nat.lt_or_ge e N with heN | heN
          · have heN' : (e : Int) < (N : Int) := by omega
            obtain ⟨_, _, hq1, hxx⟩ := (HW4.out.later HB5.out).has (by have := Hw2l.out; omega)
            cases hq1
            replace hxx := hxx e (by have := Hw2l.out; omega)
            have hyy := row_at (Hold.has (Hold.later HHS.out HB5.out) 2 _ rfl) heN
            generalize ws2.getD e 0 = y at hxx hyy
            rw [Nat.zero_add] at hxx
            go_wp2_with fail
            go_roundw
            case rel => exact ⟨e + 1, by omega, by go_num, HB5⟩
            case measure => first | omega | (simp [intOf]; done) | (simp [intOf]; omega)
          · have heN' : ¬ (e : Int) < (N : Int) := by omega
            have HGT : Hid (GeH W wr p c C L b k [tRow W.heap.size 24 1 (.slice (some ⟨g, 0, none⟩) N cap) N (ws2.map (Value.int .u64)), tRow W.heap.size 3 1 (.slice (some ⟨g2, 0, none⟩) S.length rc) S.length (S.map (fun i : Nat => i64 (i : Int)))]) := ⟨v2, bs2, gs2, bt2, Hold.later HHS.out HB5.out⟩
            have HMT := Lib.hid (HHS.out.first.later HB5.out)
            obtain ⟨y, hy⟩ : ∃ y, C0.getD (N + j) 0 = y := ⟨_, rfl⟩
            have HVY : Hid (k.val = y) := HV.out.trans hy
            have HPV : Hid (C[N + j]? = some y) := by
              have h1 := getD_at (C := C) (i := N + j) (by have := HCL.out; have := HLC.out; have := HJ.out; omega)
              show _ = _
              rw [h1, HCC.out, getD_set_ne' _ (by have := Hhz.out; have := HJ.out; omega)]
              show some (((C0.set hz (j + 1)).set j (tkW (C0.getD j 0))).getD (N + j) 0) = _
              rw [getD_set_ne' _ (by omega), getD_set_ne' _ (by have := Hhz.out; have := HJ.out; omega), hy]
            have hi1 : IntKind.i64.wrap (2 * (N : Int)) = 2 * (N : Int) := IntWalk.i64_in _ (by omega)
            have hi2 : IntKind.i64.wrap (2 * (N : Int) + 5) = 2 * (N : Int) + 5 := IntWalk.i64_in _ (by omega)
            have hi3 : wrap64 (2 * (N : Int)) = 2 * (N : Int) := by unfold wrap64; omega
            have hi4 : wrap64 (2 * (N : Int) + 5) = 2 * (N : Int) + 5 := by unfold wrap64; omega
            have HJ9 : Hid ((0 : Int) ≤ (j : Int) ∧ (j : Int) ≤ (N : Int)) := by have := HJ.out; show _ ∧ _; omega
            clear hy
            go_wp2_with fail
            refine wp_region_seqS ((fun w' => AtC w' cb t s 0 0)) ((0, true) :: (1, false) :: (2, true) :: (3, true) :: (4, true) :: (5, true) :: (6, false) :: (7, true) :: (8, true) :: (9, true) :: (10, true) :: (11, true) :: (12, true) :: (14, true) :: (15, true) :: (16, true) :: (13, false) :: (17, false) :: (18, false) :: (19, true) :: (20, true) :: (21, true) :: (22, true) :: (24, true) :: (23, false) :: (25, true) :: (26, true) :: (27, true) :: []) (by kernel_rfl) (by kernel_rfl) (by kernel_rfl) (by decide) (fun _ _ _ _ _ h => h) ((HA.out.later HGT.out.drew.below Hs.out)) ?_
            replace HGT := Lib.hid HGT.out.drew
            replace HMT := Lib.hid (HMT.out.later (Below.refl _ _).drew)
            repeat (first | (refine seq_take (v := ?_) rfl ?_ ?_ ?_; rotate_left 1; rfl; (focus (intro wS hSw; obtain ⟨k0, k1, k2, k3⟩ := hSw; go_simp; first | done | with_reducible rfl)); (try simp only [Act.put, List.setIfInBounds_toArray, List.set_cons_zero, List.set_cons_succ])) | (refine seq_skip rfl ?_ ?_; rfl; (try simp only [Act.put, List.setIfInBounds_toArray, List.set_cons_zero, List.set_cons_succ])))
            refine seq_run rfl (fun K hK => ?_)
            go_simp
            go_at_call 58
            refine (HGT.out.phase 1 HPP.out).mono ?_
            rintro r w6 ⟨rfl, hb⟩
            (try go_wp2_with fail)
            replace HGT := Lib.hid (HGT.out.later hb)
            replace HMT := Lib.hid (HMT.out.later hb)
            clear hb
            refine hK.out _ _ ((HA.out.later HGT.out.below Hs.out)) (fun _ => ?_)
            (try simp only [Act.put, List.setIfInBounds_toArray, List.set_cons_zero, List.set_cons_succ])
            clear hK K
            repeat (first | (refine seq_take (v := ?_) rfl ?_ ?_ ?_; rotate_left 1; rfl; (focus (intro wS hSw; obtain ⟨k0, k1, k2, k3⟩ := hSw; go_simp; first | done | with_reducible rfl)); (try simp only [Act.put, List.setIfInBounds_toArray, List.set_cons_zero, List.set_cons_succ])) | (refine seq_skip rfl ?_ ?_; rfl; (try simp only [Act.put, List.setIfInBounds_toArray, List.set_cons_zero, List.set_cons_succ])))
            refine seq_run rfl (fun K hK => ?_)
            go_simp
            go_at_call 46
            refine (call_any t s 0 0 N _ hlay).mono ?_
            rintro r w6 ⟨rfl, hb⟩
            (try go_wp2_with fail)
            replace HGT := Lib.hid (HGT.out.later hb)
            replace HMT := Lib.hid (HMT.out.later hb)
            clear hb
            refine hK.out _ _ ((HA.out.later HGT.out.below Hs.out)) (fun _ => ?_)
            (try simp only [Act.put, List.setIfInBounds_toArray, List.set_cons_zero, List.set_cons_succ])
            clear hK K
            repeat (first | (refine seq_take (v := ?_) rfl ?_ ?_ ?_; rotate_left 1; rfl; (focus (intro wS hSw; obtain ⟨k0, k1, k2, k3⟩ := hSw; go_simp; first | done | with_reducible rfl)); (try simp only [Act.put, List.setIfInBounds_toArray, List.set_cons_zero, List.set_cons_succ])) | (refine seq_skip rfl ?_ ?_; rfl; (try simp only [Act.put, List.setIfInBounds_toArray, List.set_cons_zero, List.set_cons_succ])))
            refine seq_run rfl (fun K hK => ?_)
            go_simp
            go_at_call 61
            refine (HGT.out.value y HVY.out (fun _ => HTA.out)).mono ?_
            rintro r w6 ⟨rfl, hb⟩
            (try go_wp2_with fail)
            replace HGT := Lib.hid (HGT.out.later hb)
            replace HMT := Lib.hid (HMT.out.later hb)
            clear hb
            refine hK.out _ _ ((HA.out.later HGT.out.below Hs.out)) (fun _ => ?_)
            (try simp only [Act.put, List.setIfInBounds_toArray, List.set_cons_zero, List.set_cons_succ])
            clear hK K
            repeat (first | (refine seq_take (v := ?_) rfl ?_ ?_ ?_; rotate_left 1; rfl; (focus (intro wS hSw; obtain ⟨k0, k1, k2, k3⟩ := hSw; go_simp; first | done | with_reducible rfl)); (try simp only [Act.put, List.setIfInBounds_toArray, List.set_cons_zero, List.set_cons_succ])) | (refine seq_skip rfl ?_ ?_; rfl; (try simp only [Act.put, List.setIfInBounds_toArray, List.set_cons_zero, List.set_cons_succ])))
            refine seq_run rfl (fun K hK => ?_)
            go_simp
            go_at_call 28
            refine (gvalue_at t s 0 0 N j (N + j) _ hlay HJ9.out.1 HJ9.out.2 (by omega)).mono ?_
            rintro r w6 ⟨rfl, hb⟩
            (try go_wp2_with fail)
            replace HGT := Lib.hid (HGT.out.later hb)
            replace HMT := Lib.hid (HMT.out.later hb)
            clear hb
            refine hK.out _ _ ((HA.out.later HGT.out.below Hs.out)) (fun _ => ?_)
            (try simp only [Act.put, List.setIfInBounds_toArray, List.set_cons_zero, List.set_cons_succ])
            clear hK K
            repeat (first | (refine seq_take (v := ?_) rfl ?_ ?_ ?_; rotate_left 1; rfl; (focus (intro wS hSw; obtain ⟨k0, k1, k2, k3⟩ := hSw; go_simp; first | done | with_reducible rfl)); (try simp only [Act.put, List.setIfInBounds_toArray, List.set_cons_zero, List.set_cons_succ])) | (refine seq_skip rfl ?_ ?_; rfl; (try simp only [Act.put, List.setIfInBounds_toArray, List.set_cons_zero, List.set_cons_succ])))
            refine seq_run rfl (fun K hK => ?_)
            go_simp
            go_at_call 44
            refine (quiet_below (peek_in W.heap.size _ p c _ _ _ (N + j) y HMT.out HPV.out)).mono ?_
            rintro r w6 ⟨rfl, hb⟩
            (try go_wp2_with fail)
            replace HGT := Lib.hid (HGT.out.later hb)
            replace HMT := Lib.hid (HMT.out.later hb)
            clear hb
            refine hK.out _ _ ((HA.out.later HGT.out.below Hs.out)) (fun _ => ?_)
            (try simp only [Act.put, List.setIfInBounds_toArray, List.set_cons_zero, List.set_cons_succ])
            clear hK K
            repeat (first | (refine seq_take (v := ?_) rfl ?_ ?_ ?_; rotate_left 1; rfl; (focus (intro wS hSw; obtain ⟨k0, k1, k2, k3⟩ := hSw; go_simp; first | done | with_reducible rfl)); (try simp only [Act.put, List.setIfInBounds_toArray, List.set_cons_zero, List.set_cons_succ])) | (refine seq_skip rfl ?_ ?_; rfl; (try simp only [Act.put, List.setIfInBounds_toArray, List.set_cons_zero, List.set_cons_succ])))
            refine seq_run rfl (fun K hK => ?_)
            go_simp
            go_at_call 62
            refine (gealone_any _ N t s 0 0 hlay (by omega)).mono ?_
            rintro r w6 ⟨rfl, hb⟩
            (try go_wp2_with fail)
            replace HGT := Lib.hid (HGT.out.later hb)
            replace HMT := Lib.hid (HMT.out.later hb)
            clear hb
            refine hK.out _ _ ((HA.out.later HGT.out.below Hs.out)) (fun _ => ?_)
            (try simp only [Act.put, List.setIfInBounds_toArray, List.set_cons_zero, List.set_cons_succ])
            clear hK K
            repeat (first | (refine seq_take (v := ?_) rfl ?_ ?_ ?_; rotate_left 1; rfl; (focus (intro wS hSw; obtain ⟨k0, k1, k2, k3⟩ := hSw; go_simp; first | done | with_reducible rfl)); (try simp only [Act.put, List.setIfInBounds_toArray, List.set_cons_zero, List.set_cons_succ])) | (refine seq_skip rfl ?_ ?_; rfl; (try simp only [Act.put, List.setIfInBounds_toArray, List.set_cons_zero, List.set_cons_succ])))
            refine seq_done ?_
            go_wp2_with fail
            go_ret
            exact ⟨rfl, below_step' HB.out HGT.out.below HB.out.size⟩
      · have he1 : ee ≠ 0 := by have : (1 : Int) = ee := Hee.out; omega
        rw [HS1.out he1] at hc1
        obtain ⟨m, hm⟩ : ∃ m, S.length = m + 1 := ⟨S.length - 1, by have := HSL.out; omega⟩
        rw [hm, Nat.add_sub_cancel] at hc1
        have hix : wrap64 ((S.length : Int) - 1) = (m : Int) := by have := HSN.out; unfold wrap64; omega
        have hlt : (m : Int) < (S.length : Int) := by omega
        have HE0 := Lib.hid he1
        clear he1 hm
        go_wp2_with fail
        clear hix hlt hc1 hsl1 hsl2
        refine (unpack_any x _ x0 x1).mono ?_
        rintro r wr7 ⟨rfl, hb⟩
        replace HHH := Lib.hid (Hold.later HHH.out hb)
        clear hb hc0 hx
        go_wp2_with fail
        refine (taken_any _ _ _ _ _ _).mono ?_
        rintro r wr8 ⟨rfl, hb⟩
        replace HHH := Lib.hid (Hold.later HHH.out hb)
        clear hb
        go_wp2_with fail
        refine (gpack_at 2 _ _ _ _ tx _ (by omega) HTX.out).mono ?_
        rintro r wr9 ⟨rfl, hb⟩
        replace HHH := Lib.hid (Hold.later HHH.out hb)
        clear hb
        have hx := row_at (Hold.has HHH.out 2 _ rfl) HJ.out
        rw [HXE.out] at hx
        have hrow : World.ownsRow _ _ _ _ _ _ _ := Hold.has HHH.out 2 _ rfl
        have hfn := hrow.frozenAt j
        have hjN' : (j : Int) < (N : Int) := by have := HJ.out; omega
        have HHS : Hid (Hold W (wr9.setCell ⟨g, j, none⟩ (u64 tx)) [tMem W.heap.size p c v2 C L, tGe W.heap.size b bs2 gs2 bt2 k, tRow W.heap.size 24 1 (.slice (some ⟨g, 0, none⟩) N cap) N ((ws.set j tx).map (Value.int .u64)), tRow W.heap.size 3 1 (.slice (some ⟨g2, 0, none⟩) S.length rc) S.length (S.map (fun i : Nat => i64 (i : Int)))]) := by
          have h := Hold.stored HHH.out 2 rfl j (u64 tx)
          rw [← List.map_set] at h
          exact h
        obtain ⟨ws2, hw2⟩ : ∃ ws2, ws.set j tx = ws2 := ⟨_, rfl⟩
        rw [hw2] at HHS
        have Hw2l : Hid (ws2.length = N) := by show _ = _; rw [← hw2, List.length_set]; exact Hwl.out
        have HCW : Hid (C.take N = ws2) := by
          show _ = _
          have h1 := HCC.out
          rw [h1, done_words (by have := Hhz.out; omega), Hws.out, ← hw2, ← HTX.out, ← HXE.out, ← Hws.out, getD_take HJ.out]
        obtain ⟨q0, q1, q2, q3⟩ := HA.out.later (Hold.below HHS.out) Hs.out
        clear hrow hw2
        go_wp2_with fail
        generalize wr9.setCell ⟨g, j, none⟩ (u64 tx) = wz at HHS q0 q1 q2 q3 ⊢
        clear hx hfn
        refine (words_at W.heap.size t s 0 0 N p c v2 C ws2 L _ hlay HHS.out.first (by have := HCL.out; have := HLC.out; omega) HCW.out Hw2l.out).mono ?_
        rintro r wy ⟨g4, cap4, rfl, hcap4, hg1, hg2, hrow4, hWW, hb4⟩
        have HW4 := Lib.hid hWW
        replace HHS := Lib.hid (Hold.later HHS.out hb4)
        clear hb4 hrow4 q0 q1 q2 q3 hg1 hg2 hWW HHH HH HM1
        go_wp2_with fail
        go_loopw [125] (fun i wr => ∃ e : Nat, e ≤ N ∧ i = .int .i64 e ∧ Hid (Below wy.heap.size wy wr)) (fun i _ => N - (intOf i).toNat)
        case atStart => exact ⟨0, by omega, rfl, Below.refl _ _⟩
        case round =>
          obtain ⟨e, he, rfl, HB5⟩ := hrel
          rcases Nat.lt_or_ge e N with heN | heN
          · have heN' : (e : Int) < (N : Int) := by omega
            obtain ⟨_, _, hq1, hxx⟩ := (HW4.out.later HB5.out).has (by have := Hw2l.out; omega)
            cases hq1
            replace hxx := hxx e (by have := Hw2l.out; omega)
            have hyy := row_at (Hold.has (Hold.later HHS.out HB5.out) 2 _ rfl) heN
            generalize ws2.getD e 0 = y at hxx hyy
            rw [Nat.zero_add] at hxx
            go_wp2_with fail
            go_roundw
            case rel => exact ⟨e + 1, by omega, by go_num, HB5⟩
            case measure => first | omega | (simp [intOf]; done) | (simp [intOf]; omega)
          · have heN' : ¬ (e : Int) < (N : Int) := by omega
            have HGT : Hid (GeH W wr p c C L b k [tRow W.heap.size 24 1 (.slice (some ⟨g, 0, none⟩) N cap) N (ws2.map (Value.int .u64)), tRow W.heap.size 3 1 (.slice (some ⟨g2, 0, none⟩) S.length rc) S.length (S.map (fun i : Nat => i64 (i : Int)))]) := ⟨v2, bs2, gs2, bt2, Hold.later HHS.out HB5.out⟩
            have HMT := Lib.hid (HHS.out.first.later HB5.out)
            obtain ⟨y, hy⟩ : ∃ y, C0.getD (N + j) 0 = y := ⟨_, rfl⟩
            have HVY : Hid (k.val = y) := HV.out.trans hy
            have HPV : Hid (C[N + j]? = some y) := by
              have h1 := getD_at (C := C) (i := N + j) (by have := HCL.out; have := HLC.out; have := HJ.out; omega)
              show _ = _
              rw [h1, HCC.out, getD_set_ne' _ (by have := Hhz.out; have := HJ.out; omega)]
              show some (((C0.set hz (j + 1)).set j (tkW (C0.getD j 0))).getD (N + j) 0) = _
              rw [getD_set_ne' _ (by omega), getD_set_ne' _ (by have := Hhz.out; have := HJ.out; omega), hy]
            have hi1 : IntKind.i64.wrap (2 * (N : Int)) = 2 * (N : Int) := IntWalk.i64_in _ (by omega)
            have hi2 : IntKind.i64.wrap (2 * (N : Int) + 5) = 2 * (N : Int) + 5 := IntWalk.i64_in _ (by omega)
            have hi3 : wrap64 (2 * (N : Int)) = 2 * (N : Int) := by unfold wrap64; omega
            have hi4 : wrap64 (2 * (N : Int) + 5) = 2 * (N : Int) + 5 := by unfold wrap64; omega
            have HJ9 : Hid ((0 : Int) ≤ (j : Int) ∧ (j : Int) ≤ (N : Int)) := by have := HJ.out; show _ ∧ _; omega
            clear hy
            go_wp2_with fail
            refine wp_region_seqS ((fun w' => AtC w' cb t s 0 0)) ((0, true) :: (1, false) :: (2, true) :: (3, true) :: (4, true) :: (5, true) :: (6, false) :: (7, true) :: (8, true) :: (9, true) :: (10, true) :: (11, true) :: (12, true) :: (14, true) :: (15, true) :: (16, true) :: (13, false) :: (17, false) :: (18, false) :: (19, true) :: (20, true) :: (21, true) :: (22, true) :: (24, true) :: (23, false) :: (25, true) :: (26, true) :: (27, true) :: []) (by kernel_rfl) (by kernel_rfl) (by kernel_rfl) (by decide) (fun _ _ _ _ _ h => h) ((HA.out.later HGT.out.drew.below Hs.out)) ?_
            replace HGT := Lib.hid HGT.out.drew
            replace HMT := Lib.hid (HMT.out.later (Below.refl _ _).drew)
            repeat (first | (refine seq_take (v := ?_) rfl ?_ ?_ ?_; rotate_left 1; rfl; (focus (intro wS hSw; obtain ⟨k0, k1, k2, k3⟩ := hSw; go_simp; first | done | with_reducible rfl)); (try simp only [Act.put, List.setIfInBounds_toArray, List.set_cons_zero, List.set_cons_succ])) | (refine seq_skip rfl ?_ ?_; rfl; (try simp only [Act.put, List.setIfInBounds_toArray, List.set_cons_zero, List.set_cons_succ])))
            refine seq_run rfl (fun K hK => ?_)
            go_simp
            go_at_call 58
            refine (HGT.out.phase 1 HPP.out).mono ?_
            rintro r w6 ⟨rfl, hb⟩
            (try go_wp2_with fail)
            replace HGT := Lib.hid (HGT.out.later hb)
            replace HMT := Lib.hid (HMT.out.later hb)
            clear hb
            refine hK.out _ _ ((HA.out.later HGT.out.below Hs.out)) (fun _ => ?_)
            (try simp only [Act.put, List.setIfInBounds_toArray, List.set_cons_zero, List.set_cons_succ])
            clear hK K
            repeat (first | (refine seq_take (v := ?_) rfl ?_ ?_ ?_; rotate_left 1; rfl; (focus (intro wS hSw; obtain ⟨k0, k1, k2, k3⟩ := hSw; go_simp; first | done | with_reducible rfl)); (try simp only [Act.put, List.setIfInBounds_toArray, List.set_cons_zero, List.set_cons_succ])) | (refine seq_skip rfl ?_ ?_; rfl; (try simp only [Act.put, List.setIfInBounds_toArray, List.set_cons_zero, List.set_cons_succ])))
            refine seq_run rfl (fun K hK => ?_)
            go_simp
            go_at_call 46
            refine (call_any t s 0 0 N _ hlay).mono ?_
            rintro r w6 ⟨rfl, hb⟩
            (try go_wp2_with fail)
            replace HGT := Lib.hid (HGT.out.later hb)
            replace HMT := Lib.hid (HMT.out.later hb)
            clear hb
            refine hK.out _ _ ((HA.out.later HGT.out.below Hs.out)) (fun _ => ?_)
            (try simp only [Act.put, List.setIfInBounds_toArray, List.set_cons_zero, List.set_cons_succ])
            clear hK K
            repeat (first | (refine seq_take (v := ?_) rfl ?_ ?_ ?_; rotate_left 1; rfl; (focus (intro wS hSw; obtain ⟨k0, k1, k2, k3⟩ := hSw; go_simp; first | done | with_reducible rfl)); (try simp only [Act.put, List.setIfInBounds_toArray, List.set_cons_zero, List.set_cons_succ])) | (refine seq_skip rfl ?_ ?_; rfl; (try simp only [Act.put, List.setIfInBounds_toArray, List.set_cons_zero, List.set_cons_succ])))
            refine seq_run rfl (fun K hK => ?_)
            go_simp
            go_at_call 61
            refine (HGT.out.value y HVY.out (fun _ => HTA.out)).mono ?_
            rintro r w6 ⟨rfl, hb⟩
            (try go_wp2_with fail)
            replace HGT := Lib.hid (HGT.out.later hb)
            replace HMT := Lib.hid (HMT.out.later hb)
            clear hb
            refine hK.out _ _ ((HA.out.later HGT.out.below Hs.out)) (fun _ => ?_)
            (try simp only [Act.put, List.setIfInBounds_toArray, List.set_cons_zero, List.set_cons_succ])
            clear hK K
            repeat (first | (refine seq_take (v := ?_) rfl ?_ ?_ ?_; rotate_left 1; rfl; (focus (intro wS hSw; obtain ⟨k0, k1, k2, k3⟩ := hSw; go_simp; first | done | with_reducible rfl)); (try simp only [Act.put, List.setIfInBounds_toArray, List.set_cons_zero, List.set_cons_succ])) | (refine seq_skip rfl ?_ ?_; rfl; (try simp only [Act.put, List.setIfInBounds_toArray, List.set_cons_zero, List.set_cons_succ])))
            refine seq_run rfl (fun K hK => ?_)
            go_simp
            go_at_call 28
            refine (gvalue_at t s 0 0 N j (N + j) _ hlay HJ9.out.1 HJ9.out.2 (by omega)).mono ?_
            rintro r w6 ⟨rfl, hb⟩
            (try go_wp2_with fail)
            replace HGT := Lib.hid (HGT.out.later hb)
            replace HMT := Lib.hid (HMT.out.later hb)
            clear hb
            refine hK.out _ _ ((HA.out.later HGT.out.below Hs.out)) (fun _ => ?_)
            (try simp only [Act.put, List.setIfInBounds_toArray, List.set_cons_zero, List.set_cons_succ])
            clear hK K
            repeat (first | (refine seq_take (v := ?_) rfl ?_ ?_ ?_; rotate_left 1; rfl; (focus (intro wS hSw; obtain ⟨k0, k1, k2, k3⟩ := hSw; go_simp; first | done | with_reducible rfl)); (try simp only [Act.put, List.setIfInBounds_toArray, List.set_cons_zero, List.set_cons_succ])) | (refine seq_skip rfl ?_ ?_; rfl; (try simp only [Act.put, List.setIfInBounds_toArray, List.set_cons_zero, List.set_cons_succ])))
            refine seq_run rfl (fun K hK => ?_)
            go_simp
            go_at_call 44
            refine (quiet_below (peek_in W.heap.size _ p c _ _ _ (N + j) y HMT.out HPV.out)).mono ?_
            rintro r w6 ⟨rfl, hb⟩
            (try go_wp2_with fail)
            replace HGT := Lib.hid (HGT.out.later hb)
            replace HMT := Lib.hid (HMT.out.later hb)
            clear hb
            refine hK.out _ _ ((HA.out.later HGT.out.below Hs.out)) (fun _ => ?_)
            (try simp only [Act.put, List.setIfInBounds_toArray, List.set_cons_zero, List.set_cons_succ])
            clear hK K
            repeat (first | (refine seq_take (v := ?_) rfl ?_ ?_ ?_; rotate_left 1; rfl; (focus (intro wS hSw; obtain ⟨k0, k1, k2, k3⟩ := hSw; go_simp; first | done | with_reducible rfl)); (try simp only [Act.put, List.setIfInBounds_toArray, List.set_cons_zero, List.set_cons_succ])) | (refine seq_skip rfl ?_ ?_; rfl; (try simp only [Act.put, List.setIfInBounds_toArray, List.set_cons_zero, List.set_cons_succ])))
            refine seq_run rfl (fun K hK => ?_)
            go_simp
            go_at_call 62
            refine (gealone_any _ N t s 0 0 hlay (by omega)).mono ?_
            rintro r w6 ⟨rfl, hb⟩
            (try go_wp2_with fail)
            replace HGT := Lib.hid (HGT.out.later hb)
            replace HMT := Lib.hid (HMT.out.later hb)
            clear hb
            refine hK.out _ _ ((HA.out.later HGT.out.below Hs.out)) (fun _ => ?_)
            (try simp only [Act.put, List.setIfInBounds_toArray, List.set_cons_zero, List.set_cons_succ])
            clear hK K
            repeat (first | (refine seq_take (v := ?_) rfl ?_ ?_ ?_; rotate_left 1; rfl; (focus (intro wS hSw; obtain ⟨k0, k1, k2, k3⟩ := hSw; go_simp; first | done | with_reducible rfl)); (try simp only [Act.put, List.setIfInBounds_toArray, List.set_cons_zero, List.set_cons_succ])) | (refine seq_skip rfl ?_ ?_; rfl; (try simp only [Act.put, List.setIfInBounds_toArray, List.set_cons_zero, List.set_cons_succ])))
            refine seq_done ?_
            go_wp2_with fail
            go_ret
            exact ⟨rfl, below_step' HB.out HGT.out.below HB.out.size⟩
end Go.Proofs.Ytoogdfjlodchhaa
