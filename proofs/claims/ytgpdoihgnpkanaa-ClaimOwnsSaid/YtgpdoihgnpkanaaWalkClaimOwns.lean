/-
  ClaimOwns answers true for all numbers and lists, and leaves all memory that was there as it was. No condition.
-/
import Derived.Test.YtgpdoihgnpkanaaClaimMore
import Derived.Test.YtgpdoihgnpkanaaWalkClaimMost
namespace Go.Proofs.Ytgpdoihgnpkanaa
open Go.RowKit
set_option linter.unusedVariables false

set_option maxRecDepth 100000 in
set_option maxHeartbeats 4000000 in
theorem walk_ClaimOwns (a0 : Int) (a1 : Int) (a2 : Option Addr) (len2 cap2 : Nat) (a3 : Option Addr) (len3 cap3 : Nat) (w : World) (w0 : (Lit.int .i64 a0).wf = true) (w1 : (Lit.int .i64 a1).wf = true) (w2 : IsRows w [.inl .i64, .inl .i64, .inr true] a2 len2 cap2) (w3 : IsRows w [.inl .i64] a3 len3 cap3) :
    Calls Try.prog 5 #[.int .i64 a0, .int .i64 a1, .slice a2 len2 cap2, .slice a3 len3 cap3] w fun e w' => e = .returned (.bool true) ∧ Below w.heap.size w w' := by
  clear w0 w1
  by_cases hbig : 64 < len2
  · have hbig' : (64 : Int) < (len2 : Int) := by omega
    clear w2 w3
    go_enter Try.func5, Try.ntmps5
    go_wp2_with fail
    refine (head6_any _).mono ?_
    rintro e w1 ⟨rfl, hb1⟩
    go_wp2_with fail
    go_ret
    exact ⟨rfl, hb1⟩
  have p0 : decide ((64 : Int) < (len2 : Int)) = false := decide_eq_false (by omega)
  by_cases hbig2 : 64 < len3
  · have hbig' : decide ((64 : Int) < (len3 : Int)) = true := decide_eq_true (by omega)
    clear w2 w3
    go_enter Try.func5, Try.ntmps5
    go_wp2_with fail
    refine (head6_any _).mono ?_
    rintro e w1 ⟨rfl, hb1⟩
    go_wp2_with fail
    go_ret
    exact ⟨rfl, hb1⟩
  have p1 : decide ((64 : Int) < (len3 : Int)) = false := decide_eq_false (by omega)
  have W2 := Lib.hid w2
  have W3 := Lib.hid w3
  clear w2 w3
  go_enter Try.func5, Try.ntmps5
  go_wp2_with fail
  refine (head6_any _).mono ?_
  rintro e w1 ⟨rfl, hb1⟩
  go_wp2_with fail
  refine (conf2_any _ _ _).mono ?_
  rintro e w2 ⟨t, s, rfl, t1, t2, s1, s2, hb2⟩
  have ht0 : (t == 0) = false := by simp; omega
  have hB2 := Lib.hid (below_step hb1 hb2)
  clear hb1 hb2
  obtain ⟨N, hNe, hlay, hN1, hN2⟩ := lay44c t1 t2 s1 s2
  obtain ⟨Q, hQ, hQ20⟩ := most_le t1 t2 s1 s2
  have HQ := Lib.hid hQ
  have hn0 : ¬ N = 0 := by omega
  clear hNe hQ
  go_wp2_with fail
  have hA := AtC.made w2 t s 0 0
  have hB3 := below_new (Below.refl w2.heap.size w2) (.cells #[.int .i64 t, .int .i64 s, .int .i64 0, .int .i64 0] 27)
  have hs3 : w2.heap.size < (w2.alloc (.cells #[.int .i64 t, .int .i64 s, .int .i64 0, .int .i64 0] 27)).heap.size := by simp
  have HA := Lib.hid hA
  have HB := Lib.hid (below_step hB2.out hB3)
  have Hs := Lib.hid hs3
  clear hA hB3 hs3 hB2
  generalize w2.alloc (.cells #[.int .i64 t, .int .i64 s, .int .i64 0, .int .i64 0] 27) = W at HA HB Hs ⊢
  generalize w2.heap.size = cb at HA Hs ⊢
  clear w2 w1
  refine (cells_any W.heap.size t s N _ _ _ _ _ _ _ hlay t2 hN2 (Nat.le_refl _) (rows_later W2.out HB.out) (rows_later W3.out HB.out)).mono ?_
  rintro r w3 ⟨p, c, v, C, L, rfl, hM3, hlen, hL, hb3, hfr⟩
  have HH : Hid (Hold W w3 [tMem W.heap.size p c v C L]) := (Hold.nil (Below.refl _ _)).more hb3 (tMem_ok _ _ _ _ _ _) hM3 hfr
  have HC := Lib.hid hlen
  obtain ⟨hz, hhz⟩ : ∃ hz : Nat, (hz : Int) = 2 * (N : Int) := ⟨2 * N, by omega⟩
  have HHZ := Lib.hid hhz
  clear hM3 hlen hb3 hfr hhz
  go_wp2_with fail
  have HR0 : Hid (Hold W (w3.alloc (.cells #[] 3)) [tMem W.heap.size p c v C L, tRow W.heap.size 3 1 (.slice (some ⟨w3.heap.size, 0, none⟩) 0 0) 0 []]) := Hold.more HH.out (below_new (Below.refl _ _) (.cells #[] 3)) (tRow_ok _ _ _ _ _ _) (tRow_made _ _ 3 1 HH.out.size) tRow_new
  have HL0 : Hid (L.length ≤ 20 + 20 * 0) := hL
  clear HH hL
  go_loopw [11, 12] (fun vs i wr => ∃ (q : Nat) (v : Value) (L : List Ev) (S : List Int), (q : Int) ≤ t ∧ i = .int .i64 q ∧ Hid (Hold W wr [tMem W.heap.size p c v C L, tRow W.heap.size 3 1 vs S.length (S.map (Value.int .i64))]) ∧ Hid (L.length ≤ 20 + 20 * q) ∧ Hid (S.Pairwise (· < ·) ∧ ∀ y ∈ S, y < (q : Int) * s) ∧ S.length ≤ q) (fun _ i _ => t.toNat - (intOf i).toNat)
  case atStart => exact ⟨0, _, _, [], by omega, rfl, HR0, HL0, ⟨List.Pairwise.nil, fun y hy => by cases hy⟩, Nat.le_refl _⟩
  case round =>
    clear HR0 HL0
    obtain ⟨q, v, L, S, hqt, rfl, HH, HL, HS, hSq⟩ := hrel
    obtain ⟨q0, q1, q2, q3⟩ := HA.out.later HH.out.below Hs.out
    rcases Int.lt_or_le (q : Int) t with hlt | hge
    · obtain ⟨m, hm, hmN⟩ := who_s hlay (show (0 : Int) ≤ (q : Int) by omega) hlt
      go_wp2_with fail
      refine (clnew_any _ N m t s 0 0 q hlay (by omega) hlt hm (by omega) hmN).mono ?_
      rintro r w4 ⟨b, rfl, hS4, hb4, hbb⟩
      have HH1 : Hid (ClHold W w4 p c v C L b (cl0 t s 0 0 q m) [tRow W.heap.size 3 1 u11 S.length (S.map (Value.int .i64))]) := Hold.swap (Hold.more HH.out hb4 (tObj_ok _ _ _) ⟨hS4, Nat.le_trans HH.out.size hbb⟩ (fun q hq => by cases hq; exact hbb))
      have HF0 : Hid (Fd (cl0 t s 0 0 q m) C N m hz ((0 : Nat) : Int)) := Fd.start t s 0 0 q hlay HHZ.out HC.out (by omega) hlt hm (by omega) hmN
      have HE0 : Hid (Cl.Same (cl0 t s 0 0 q m) (cl0 t s 0 0 q m)) := ⟨rfl, rfl, rfl⟩
      have HL1 : Hid (L.length ≤ 20 + 20 * q + 0) := HL.out
      have HMQ := Lib.hid hm
      obtain ⟨wo, rfl⟩ : ∃ wo : World, wo = wr := ⟨_, rfl⟩
      clear hS4 hb4 hbb q0 q1 q2 q3 HH HL hm
      go_wp2_with fail
      go_loopw [14] (fun i wr => ∃ (e : Nat) (v : Value) (L : List Ev) (k : Cl), e ≤ Q ∧ i = .int .i64 e ∧ Hid (ClHold W wr p c v C L b k [tRow W.heap.size 3 1 u11 S.length (S.map (Value.int .i64))]) ∧ Hid (Fd k C N m hz (e : Int)) ∧ Hid (Cl.Same (cl0 t s 0 0 q m) k) ∧ Hid (L.length ≤ 20 + 20 * q + e)) (fun i _ => Q - (intOf i).toNat)
      case atStart => exact ⟨0, _, _, _, by omega, rfl, HH1, HF0, HE0, HL1⟩
      case round =>
        clear HH1 HF0 HE0 HL1
        obtain ⟨e, v, L, k, he, rfl, HH, HF, HE, HL⟩ := hrel
        obtain ⟨q0, q1, q2, q3⟩ := HA.out.later HH.out.below Hs.out
        go_wp2_with fail
        refine (clmost_any _ t s 0 0 t1 (by omega) s1 (by omega) Q HQ.out (by omega) (by omega)).mono ?_
        rintro r w5 ⟨rfl, hb5⟩
        replace HH := Lib.hid (HH.out.later hb5)
        clear hb5 q0 q1 q2 q3
        rcases Nat.lt_or_ge e Q with heQ | heQ
        · have heQ' : (e : Int) < (Q : Int) := by omega
          have HST := Lib.hid (HH.out.call HF.out.ok (by have := HL.out; omega))
          have HF2 : Hid (Fd (k.step m hz C) C N m hz ((e + 1 : Nat) : Int)) := HF.out.step
          have HE2 : Hid (Cl.Same (cl0 t s 0 0 q m) (k.step m hz C)) := ⟨(Cl.step_same k m hz C).1.trans HE.out.1, (Cl.step_same k m hz C).2.1.trans HE.out.2.1, (Cl.step_same k m hz C).2.2.trans HE.out.2.2⟩
          clear HF HE
          go_wp2_with fail
          refine HST.out.mono ?_
          rintro r w6 ⟨rfl, v6, hH6⟩
          have HH6 := Lib.hid hH6
          clear hH6
          go_wp2_with fail
          go_roundw
          case rel => exact ⟨e + 1, v6, _, _, by omega, by go_num, HH6, HF2, HE2, by show _ ≤ _; rw [List.length_append]; have := HL.out; have := Cl.ev_le k hz C; omega⟩
          case measure => simp [intOf]; omega
        · obtain rfl : Q = e := by omega
          have hQQ : ¬ Q < Q := by omega
          have hph : k.ph ≠ 0 := HF.out.most (by rw [HE.out.1, HE.out.2.1]; exact HQ.out.symm)
          have hpr : k.ph = 1 ∨ k.ph = 2 := by
            rcases HF.out.pr with h | h
            · exact absurd h hph
            · exact h
          have hk0 := HF.out.ok.s0
          have hk1 := HF.out.ok.s1
          rw [HE.out.2.1] at hk1
          have hk1' : k.slot < (m : Int) + s := hk1
          have hk2 : (m : Int) + s ≤ N := hmN
          have HOD := Lib.hid (own_div s1 s2 HMQ.out hk0 hk1')
          have HKB : Hid (0 ≤ k.slot ∧ k.slot < N) := ⟨by omega, by omega⟩
          have HKC : Hid ((m : Int) ≤ k.slot ∧ k.slot < (m : Int) + s) := ⟨hk0, hk1'⟩
          obtain ⟨sl, hsl⟩ : ∃ sl, k.slot = sl := ⟨_, rfl⟩
          rw [hsl] at HOD HKB HKC
          have HSL := Lib.hid hsl
          have HOB := Lib.hid HH.out.obj
          clear hsl hk0 hk1 hk1' hk2 hph HF HE
          obtain ⟨q0, q1, q2, q3⟩ := HA.out.later HH.out.below Hs.out
          rcases hpr with hp | hp
          · have HP := Lib.hid hp
            clear hp
            go_wp2_with fail
            refine wp_region_seq ((0, true) :: (1, false) :: (2, true) :: (3, true) :: (4, true) :: (5, true) :: (8, true) :: (6, false) :: (7, false) :: (9, true) :: (10, true) :: []) (by kernel_rfl) (by kernel_rfl) (by kernel_rfl) (by decide) (fun _ _ _ _ _ h => h) (fun hHeld => ?_)
            repeat (first
              | (refine seq_take (v := ?_) rfl ?_ ?_ ?_; rotate_left 1; rfl; (focus (intro wS hSw; have hk := below_rule hSw; go_simp; first | done | with_reducible rfl)); (try simp only [Act.put, List.setIfInBounds_toArray, List.set_cons_zero, List.set_cons_succ]))
              | (refine seq_skip rfl ?_ ?_; rfl; (try simp only [Act.put, List.setIfInBounds_toArray, List.set_cons_zero, List.set_cons_succ]))
              | (refine seq_run rfl (fun K hK => ?_); go_simp; (try (first | (go_at_call 23; refine (clphase_at 1 HP.out (HOB.out.later hHeld)).mono ?_; rintro e w' ⟨rfl, hb'⟩) | (go_at_call 24; refine (clslot_at sl HSL.out (HOB.out.later hHeld)).mono ?_; rintro e w' ⟨rfl, hb'⟩) | (go_at_call 32; refine (cowner_at t s N sl q _ hlay HKB.out.1 HKB.out.2 HOD.out).mono ?_; rintro e w' ⟨rfl, hb'⟩))); (try go_wp2_with fail); refine hK.out _ _ ?_ ?_; (focus (first | exact below_step hHeld hb' | exact below_new hHeld _ | exact hHeld)); (try clear hb'); clear hHeld hK K; intro hHeld; (try simp only [Act.put, List.setIfInBounds_toArray, List.set_cons_zero, List.set_cons_succ])))
            first | refine seq_done ?_ | skip
            replace HH := Lib.hid (HH.out.later hHeld)
            clear hHeld q0 q1 q2 q3 HOB
            go_wp2_with fail
            refine (clphase_at 1 HP.out HH.out.obj).mono ?_
            rintro r w6 ⟨rfl, hb6⟩
            replace HH := Lib.hid (HH.out.later hb6)
            clear hb6
            go_wp2_with fail
            refine (clslot_at sl HSL.out HH.out.obj).mono ?_
            rintro r w7 ⟨rfl, hb7⟩
            replace HH := Lib.hid (HH.out.later hb7)
            clear hb7
            have HRW : Hid (World.ownsRow _ _ _ _ _ _ _) := Hold.has HH.out 2 _ rfl
            obtain ⟨A, cap, rfl⟩ := own_shape HRW.out
            have hS4 : S.length ≤ 4 := by omega
            go_wp2_with (at_builtin; refine list_append_grew rfl _ _ 23 rfl W.heap.size 3 _ 1 8 elem_i64 (.slice A S.length cap) S.length (S.map (Value.int .i64)) rfl (Hold.has (Hold.later HH.out (below_new (Below.refl _ _) (.cells #[.int .i64 sl] 3))) 2 _ rfl) (some ⟨_, 0, none⟩) 1 1 [.int .i64 sl] rfl (src_list w7 [.int .i64 sl] 3 1 1 rfl (one_int _ _)) (by unfold maxLen; omega) (by omega) ((Hold.later HH.out (below_new (Below.refl _ _) _)).size) ?_; intro vb' w8 hG; have HH8 := Lib.hid ((Hold.later HH.out (below_new (Below.refl _ _) (.cells #[.int .i64 sl] 3))).append 2 rfl rfl hG); clear hG)
            have HH9 : Hid (Hold W w8 [tMem W.heap.size p c v C L, tRow W.heap.size 3 1 vb' (S ++ [sl]).length ((S ++ [sl]).map (Value.int .i64))]) := by
              rw [List.length_append, List.map_append]
              exact (Hold.swap HH8.out).init
            have HS9 : Hid ((S ++ [sl]).Pairwise (· < ·) ∧ ∀ y ∈ S ++ [sl], y < ((q + 1 : Nat) : Int) * s) := by
              have h1 := HKC.out
              have h2 := HMQ.out
              have e1 : ((q + 1 : Nat) : Int) * s = (m : Int) + s := by rw [← h2, show ((q + 1 : Nat) : Int) = (q : Int) + 1 by omega, Int.add_mul, Int.one_mul]
              refine ⟨rise_append HS.out.1 HS.out.2 (by rw [h2]; exact h1.1), fun y hy => ?_⟩
              rw [e1]
              rcases List.mem_append.1 hy with h | h
              · have h3 := HS.out.2 y h
                rw [h2] at h3
                omega
              · rw [List.mem_singleton] at h
                omega
            clear HH8 HH
            go_roundw
            case rel => exact ⟨q + 1, v, L, S ++ [sl], by omega, by go_num, HH9, by have := HL.out; show _ ≤ _; omega, HS9, by rw [List.length_append]; simp; omega⟩
            case measure => simp [intOf]; omega
          · have HP := Lib.hid hp
            clear hp
            go_wp2_with fail
            refine wp_region_seq ((0, true) :: (1, false) :: (2, true) :: (3, true) :: (4, true) :: (5, true) :: (8, true) :: (6, false) :: (7, false) :: (9, true) :: (10, true) :: []) (by kernel_rfl) (by kernel_rfl) (by kernel_rfl) (by decide) (fun _ _ _ _ _ h => h) (fun hHeld => ?_)
            repeat (first
              | (refine seq_take (v := ?_) rfl ?_ ?_ ?_; rotate_left 1; rfl; (focus (intro wS hSw; have hk := below_rule hSw; go_simp; first | done | with_reducible rfl)); (try simp only [Act.put, List.setIfInBounds_toArray, List.set_cons_zero, List.set_cons_succ]))
              | (refine seq_skip rfl ?_ ?_; rfl; (try simp only [Act.put, List.setIfInBounds_toArray, List.set_cons_zero, List.set_cons_succ]))
              | (refine seq_run rfl (fun K hK => ?_); go_simp; (try (first | (go_at_call 23; refine (clphase_at 2 HP.out (HOB.out.later hHeld)).mono ?_; rintro e w' ⟨rfl, hb'⟩) | (go_at_call 24; refine (clslot_at sl HSL.out (HOB.out.later hHeld)).mono ?_; rintro e w' ⟨rfl, hb'⟩) | (go_at_call 32; refine (cowner_at t s N sl q _ hlay HKB.out.1 HKB.out.2 HOD.out).mono ?_; rintro e w' ⟨rfl, hb'⟩))); (try go_wp2_with fail); refine hK.out _ _ ?_ ?_; (focus (first | exact below_step hHeld hb' | exact below_new hHeld _ | exact hHeld)); (try clear hb'); clear hHeld hK K; intro hHeld; (try simp only [Act.put, List.setIfInBounds_toArray, List.set_cons_zero, List.set_cons_succ])))
            first | refine seq_done ?_ | skip
            replace HH := Lib.hid (HH.out.later hHeld)
            clear hHeld q0 q1 q2 q3 HOB
            go_wp2_with fail
            refine (clphase_at 2 HP.out HH.out.obj).mono ?_
            rintro r w6 ⟨rfl, hb6⟩
            replace HH := Lib.hid (HH.out.later hb6)
            clear hb6
            have HH9 : Hid (Hold W w6 [tMem W.heap.size p c v C L, tRow W.heap.size 3 1 u11 S.length (S.map (Value.int .i64))]) := (Hold.swap HH.out).init
            have HS9 : Hid (S.Pairwise (· < ·) ∧ ∀ y ∈ S, y < ((q + 1 : Nat) : Int) * s) := ⟨HS.out.1, fun y hy => by
              have h3 := HS.out.2 y hy
              rw [show ((q + 1 : Nat) : Int) = (q : Int) + 1 by omega, Int.add_mul, Int.one_mul]
              omega⟩
            clear HH
            go_wp2_with fail
            go_roundw
            case rel => exact ⟨q + 1, v, L, S, by omega, by go_num, HH9, by have := HL.out; show _ ≤ _; omega, HS9, by omega⟩
            case measure => simp [intOf]; omega
    · have hqt' : ¬ (q : Int) < t := by omega
      have hrow : wr.ownsRow W.heap.size 3 1 u11 S.length (S.map (Value.int .i64)) := Hold.has HH.out 1 _ rfl
      obtain ⟨A, cap, rfl⟩ := own_shape hrow
      have HROW := Lib.hid hrow
      have HBW : Hid (Below wr.heap.size wr wr) := Below.refl _ _
      obtain ⟨ws, hws⟩ : ∃ ws : World, ws = wr := ⟨_, rfl⟩
      have hbf := Lib.hid (below_step' HB.out HH.out.below HB.out.size)
      have hSlen : S.length ≤ 4 := by omega
      rw [← hws] at HROW HBW hbf
      have HBW2 : Hid (Below ws.heap.size ws wr) := by rw [hws]; exact Below.refl _ _
      clear hrow hws HBW HH
      obtain ⟨wo, rfl⟩ : ∃ wo : World, wo = wr := ⟨_, rfl⟩
      go_wp2_with fail
      clear q0 q1 q2 q3
      go_loopw [76] (fun j wr => ∃ e : Nat, e ≤ S.length ∧ j = .int .i64 e ∧ Hid (Below ws.heap.size ws wr)) (fun j _ => S.length - (intOf j).toNat)
      case atStart => exact ⟨0, by omega, rfl, HBW2⟩
      case round =>
        clear HBW2
        obtain ⟨e, he, rfl, HBW⟩ := hrel
        rcases Nat.lt_or_ge e S.length with heS | heS
        · obtain ⟨sg, scap, hA, hcap, hsg⟩ := row_shape HROW.out (by omega)
          obtain ⟨rfl, rfl⟩ : A = some ⟨sg, 0, none⟩ ∧ cap = scap := by
            injection hA with h1 h2 h3
            exact ⟨h1, h3⟩
          have hce := (HBW.out.cell (p := ⟨sg, e, none⟩) hsg).trans (row_at HROW.out heS)
          have heS' : (e : Int) < (S.length : Int) := by omega
          have hecap : (e : Int) ≤ (cap : Int) := by omega
          have HCAP := Lib.hid hcap
          clear hA hcap
          generalize hSe : S.getD e 0 = se at hce
          have HSE := Lib.hid hSe
          clear hSe
          obtain ⟨wo, rfl⟩ : ∃ wo : World, wo = wr := ⟨_, rfl⟩
          go_wp2_with fail
          go_loopw [85] (fun j wr => ∃ d : Nat, d ≤ e ∧ j = .int .i64 d ∧ Hid (Below ws.heap.size ws wr)) (fun j _ => e - (intOf j).toNat)
          case atStart => exact ⟨0, by omega, rfl, HBW⟩
          case round =>
            clear HBW hce
            obtain ⟨d, hd, rfl, HBW⟩ := hrel
            rcases Nat.lt_or_ge d e with hde | hde
            · have hcd := (HBW.out.cell (p := ⟨sg, d, none⟩) hsg).trans (row_at HROW.out (show d < S.length by omega))
              have hne := rise_ne HS.out.1 hde heS
              rw [HSE.out] at hne
              generalize S.getD d 0 = sd at hcd hne
              have qne : (se == sd) = false := by simp [hne]
              have hde' : (d : Int) < (e : Int) := by omega
              clear hne
              go_wp2_with fail
              go_roundw
              case rel => exact ⟨d + 1, by omega, by go_num, HBW⟩
              case measure => simp [intOf]; omega
            · have hde' : ¬ d < e := by omega
              go_wp2_with fail
              go_roundw
              case rel => exact ⟨e + 1, by omega, by go_num, HBW⟩
              case measure => simp [intOf]; omega
        · have heS' : ¬ e < S.length := by omega
          have hbg := Lib.hid (below_step' hbf.out HBW.out (by have := hbf.out.size; have := HBW.out.size; omega))
          go_wp2
          go_ret
          exact ⟨rfl, hbg.out⟩

end Go.Proofs.Ytgpdoihgnpkanaa
