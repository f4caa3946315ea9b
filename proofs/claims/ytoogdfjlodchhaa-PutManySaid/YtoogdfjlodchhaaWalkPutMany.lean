/-
  PutMany answers true for all lists and numbers, and leaves all memory that was there as it was. No condition.
-/
import Derived.Test.YtoogdfjlodchhaaPutManyPure
import Derived.Test.YtoogdfjlodchhaaWalkPutTurn
import Derived.Test.YtoogdfjlodchhaaClaimMore
import Derived.Test.YtoogdfjlodchhaaStampCalls2
import Derived.Test.YtoogdfjlodchhaaRegionT
import Derived.Deep.DeepCutAuto
namespace Go.Proofs.Ytoogdfjlodchhaa
open Go.RowKit
set_option linter.unusedVariables false

theorem elem_pu : ElemAt Try.prog 76 34 (.pointer none) 1 8 := ElemAt.mk' Try.underlying76 (by kernel_rfl) rfl (by decide)
theorem one_ptr (b : Nat) : ∀ u ∈ [pt b], u.oneCell' = true := by
  intro u hu
  rw [List.mem_singleton] at hu
  rw [hu]
  rfl
theorem right_at (a b : Int) (w : World) (h : rightB a b = true) :
    Calls Try.prog 50 #[st a b] w fun e w' => e = .returned (.bool true) ∧ Below w.heap.size w w' := h ▸ right_any a b w
theorem conf4_one (a0 a1 a2 : Int) (w : World) :
    Calls Try.prog 16 #[.int .i64 a0, .int .i64 a1, .int .i64 a2, .int .i64 1] w fun r w' => ∃ t s so d : Int, r = .returned (cf t s so d) ∧ 1 ≤ t ∧ t ≤ 4 ∧ 1 ≤ s ∧ s ≤ 4 ∧ 0 ≤ so ∧ so ≤ 4 ∧ 0 ≤ d ∧ d ≤ 3 ∧ Below w.heap.size w w' := conf4_any a0 a1 a2 1 w

set_option maxRecDepth 100000 in
set_option maxHeartbeats 8000000 in
theorem walk_PutMany (a0 : Int) (a1 : Int) (a2 : Int) (a3 : Option Addr) (len3 cap3 : Nat) (w : World) (w0 : (Lit.int .i64 a0).wf = true) (w1 : (Lit.int .i64 a1).wf = true) (w2 : (Lit.int .i64 a2).wf = true) (w3 : IsRows w [.inl .i64] a3 len3 cap3) :
    Calls Try.prog 7 #[.int .i64 a0, .int .i64 a1, .int .i64 a2, .slice a3 len3 cap3] w fun e w' => e = .returned (.bool true) ∧ Below w.heap.size w w' := by
  clear w0 w1 w2
  rcases Nat.lt_or_ge 200 len3 with hbig | hs5
  · have hbig' : (200 : Int) < (len3 : Int) := by omega
    clear w3
    go_enter Try.func7, Try.ntmps7
    go_wp2_with fail
    refine (head10_any _).mono ?_
    rintro e w1 ⟨rfl, hb1⟩
    go_wp2_with fail
    go_ret
    exact ⟨rfl, hb1⟩
  have p5 : decide ((200 : Int) < (len3 : Int)) = false := decide_eq_false (by omega)
  obtain ⟨ub, uff, Y, hY⟩ := rows_ints w3
  have HY : Hid (IsNs w a3 len3 cap3 ub uff Y) := hY
  clear w3 hY
  go_enter Try.func7, Try.ntmps7
  go_wp2_with fail
  refine (head10_any _).mono ?_
  rintro e w1 ⟨rfl, hb1⟩
  go_wp2_with fail
  refine (conf4_one _ _ _ _).mono ?_
  rintro e w2 ⟨t, s, so, d, rfl, t1, t2, s1, s2, o0, o4, d0, d3, hb2⟩
  have ht0 : (t == 0) = false := by simp; omega
  have hB2 := Lib.hid (below_step hb1 hb2)
  clear hb1 hb2
  obtain ⟨N, hNe, hlay, hN1, hN2⟩ := lay44 t1 t2 s1 s2
  have hn0 : ¬ N = 0 := by omega
  clear hNe
  go_wp2_with fail
  have hA := AtC.made w2 t s so d
  have hB3 := below_new (Below.refl w2.heap.size w2) (.cells #[.int .i64 t, .int .i64 s, .int .i64 so, .int .i64 d] 29)
  have hs3 : w2.heap.size < (w2.alloc (.cells #[.int .i64 t, .int .i64 s, .int .i64 so, .int .i64 d] 29)).heap.size := by simp
  have HA := Lib.hid hA
  have HB := Lib.hid (below_step hB2.out hB3)
  have Hs := Lib.hid hs3
  clear hA hB3 hs3 hB2
  generalize w2.alloc (.cells #[.int .i64 t, .int .i64 s, .int .i64 so, .int .i64 d] 29) = W at HA HB Hs ⊢
  generalize w2.heap.size = cb at HA Hs ⊢
  clear w2 w1
  obtain ⟨M, hM⟩ : ∃ M : Nat, 2 * (N : Int) + 2 * t = (M : Int) := ⟨(2 * (N : Int) + 2 * t).toNat, by omega⟩
  obtain ⟨nb, hnb⟩ : ∃ nb : Nat, (nb : Int) = 2 * N + t := ⟨(2 * N + t).toNat, by omega⟩
  obtain ⟨hz, hhz⟩ : ∃ hz : Nat, (hz : Int) = 2 * N := ⟨2 * N, by omega⟩
  have HM := Lib.hid hM
  have Hnb := Lib.hid hnb
  have Hhz := Lib.hid hhz
  refine (ccells_any t s so d N _ hlay).mono ?_
  rintro r w1 ⟨rfl, hb1⟩
  rw [hM]
  clear hM
  go_wp2_with fail
  refine (new_nat W.heap.size M M _ hb1.size (by have := HM.out; omega) (.inl rfl)).mono ?_
  rintro r w2 ⟨p, c, rfl, hM2, hb2, hp, hc⟩
  have HH0 := Lib.hid (Hold.cells hb1 hM2 hb2 hp hc)
  clear hM2 hb2 hp hc hb1 hnb hhz
  obtain ⟨Q, q0, hq1, hQ, hQ1, hQ2, hQ3, hQ4⟩ := pmost_le (so := so) t1 t2 s1 s2 d0 d3
  have HPM := Lib.hid (fun W' => pmost_any t s so d t1 t2 s1 s2 d0 d3 o0 o4 Q hQ W')
  have HQ := Lib.hid hQ
  obtain ⟨sn, hsn⟩ : ∃ sn : Nat, s = (sn : Int) := ⟨s.toNat, by omega⟩
  have HSN := Lib.hid hsn
  have hfit : ∀ i : Nat, (i : Int) < t → i * sn + sn ≤ N := fun i hi => by
    have h1 := Nat.mul_le_mul_right sn (show i + 1 ≤ t.toNat by omega)
    have h2 : ((t.toNat * sn : Nat) : Int) = (N : Int) := by rw [Int.natCast_mul, Int.toNat_of_nonneg (by omega), ← hsn]; exact hlay.eq
    rw [Nat.add_mul, Nat.one_mul] at h1
    omega
  have HFIT := Lib.hid hfit
  have HR0 : Hid (Many t s so d sn N nb hz 0 (List.replicate M 0) [] 0) := ⟨rfl, by omega, hsn, by omega, hfit, Hnb.out, by rw [List.length_replicate]; have := HM.out; have := Hnb.out; omega, fun j => by rcases Nat.lt_or_ge j nb with hj | hj; (rw [numC_lo hj]; exact ⟨Int.le_refl _, Int.le_refl _⟩); (rw [numC_hi hj, zeros]; exact ⟨Int.le_refl _, Int.le_refl _⟩), fun i b b1 b2 k hi => by simp at hi, fun i _ _ => zeros _ _⟩
  have HX0 : Hid (Rest (Q : Int) sn 0 0 []) := fun i b b1 b2 k hi => by simp at hi
  have HH7 : Hid (ManyHold W (w2.alloc (.cells #[] 34)) 34 p c (.slice none 0 0) (List.replicate M 0) [] (.slice (some ⟨w2.heap.size, 0, none⟩) 0 0) []) := ManyHold.start HH0.out
  have HZL : Hid ((List.replicate M (0 : Int)).length = M) := List.length_replicate
  clear HH0 hQ hq1 hQ3 hsn hfit
  go_wp2_with fail
  generalize w2.alloc (.cells #[] 34) = wa at HH7 ⊢
  generalize w2.heap.size = ga at HH7 ⊢
  clear w2 w1
  go_loopw [11, 12] (fun va i wr => ∃ (e : Nat) (Ks : List PuB4), (e : Int) ≤ t ∧ i = .int .i64 e ∧ Hid (ManyHold W wr 34 p c (.slice none 0 0) (List.replicate M 0) [] va Ks) ∧ Hid (Many t s so d sn N nb hz e (List.replicate M 0) Ks 0) ∧ Hid (Rest (Q : Int) sn 0 0 Ks)) (fun _ i _ => t.toNat - (intOf i).toNat)
  case atStart => exact ⟨0, [], by omega, rfl, HH7, HR0, HX0⟩
  case round =>
    clear HH7 HR0 HX0
    obtain ⟨e, Ks, he, rfl, HH, HR, HX⟩ := hrel
    obtain ⟨A, cap, rfl⟩ := own_shape HH.out.row
    obtain ⟨q0, q1, q2, q3⟩ := HA.out.later HH.out.below Hs.out
    rcases Int.lt_or_le (e : Int) t with hlt | hge
    · have he4 : e ≤ 4 := by omega
      have hwu : IntKind.u64.wrap (100 + (e : Int)) = 100 + (e : Int) := by rw [IntKind.wrap_u64]; omega
      have hES : (e : Int) * s = ((e * sn : Nat) : Int) := by rw [HSN.out, Int.natCast_mul]
      have HES := Lib.hid hES
      have hft := HFIT.out e hlt
      have HSE : Hid (((e * sn : Nat) : Int) + s ≤ (N : Int)) := by have := HSN.out; show _ ≤ _; omega
      clear hES hft
      go_wp2_with fail
      refine (punew_any _ N ((e * sn : Nat) : Int) t s so d e 1 (100 + (e : Int)) hlay (by omega) hlt HES.out (by omega) HSE.out).mono ?_
      rintro r w10 ⟨b, b1, b2, rfl, hS, hb, hbb⟩
      have HS := Lib.hid hS
      have HBn := Lib.hid hb
      have HBb := Lib.hid hbb
      have HKl : Hid (Ks.length = e) := HR.out.len
      clear hS hb hbb q0 q1 q2 q3
      go_wp2_with (at_builtin; refine list_append_grew rfl _ _ 76 rfl W.heap.size 34 _ 1 8 elem_pu (.slice A Ks.length cap) Ks.length (Ks.map fun x => pt x.1) rfl (((HH.out.later HBn.out).later (below_new (Below.refl _ _) (.cells #[pt b] 34))).row) (some ⟨_, 0, none⟩) 1 1 [pt b] rfl (src_list w10 [pt b] 34 1 1 rfl (one_ptr b)) (by have := HKl.out; unfold maxLen; omega) (by have := HKl.out; omega) (((HH.out.later HBn.out).later (below_new (Below.refl _ _) (.cells #[pt b] 34))).size) ?_; intro va' w11 hG; have HH8 := Lib.hid (HH.out.more (k := pu0 t s so d e 1 (100 + (e : Int)) ((e * sn : Nat) : Int)) HBn.out HS.out HBb.out (below_new (Below.refl _ _) (.cells #[pt b] 34)) hG); clear hG)
      have HR8 := Lib.hid (HR.out.more (b := b) (b1 := b1) (b2 := b2) hlay Hhz.out o0 o4 d0 (by omega) hlt t2 (Int.le_refl _))
      have HX8 := Lib.hid (HX.out.more (b := b) (b1 := b1) (b2 := b2) HR.out (by have := HQ.out; omega))
      clear hwu
      go_roundw
      case rel => exact ⟨e + 1, _, by omega, by go_num, HH8, HR8, HX8⟩
      case measure => first | omega | (simp [intOf]; done) | (simp [intOf]; omega)
    · have hge' : ¬ (e : Int) < t := by omega
      obtain ⟨tn, htn⟩ : ∃ tn : Nat, t = (tn : Int) := ⟨t.toNat, by omega⟩
      obtain rfl : e = tn := by omega
      have hkl : Ks.length = e := HR.out.len
      obtain ⟨g, cap', hv, hcc, _⟩ := row_shape HH.out.row (by omega)
      cases hv
      rw [hkl] at HH hcc ⊢
      have HTN := Lib.hid htn
      have HZL0 : Hid (([] : List Ev).length ≤ 0) := Nat.le_refl _
      have he1 : 1 ≤ e ∧ e ≤ 4 := by omega
      clear hkl htn he hge
      go_wp2_with fail
      clear q0 q1 q2 q3
      go_loopw [13, 52] (fun nw i wr => ∃ (q : Nat) (v : Value) (C : List Int) (L : List Ev) (Ks : List PuB4), q ≤ len3 ∧ nw = .int .i64 q ∧ i = .int .i64 q ∧ Hid (ManyHold W wr 34 p c v C L (.slice (some ⟨g, 0, none⟩) e cap) Ks) ∧ Hid (Many t s so d sn N nb hz e C Ks q) ∧ Hid (Rest (Q : Int) sn 0 0 Ks) ∧ Hid (L.length ≤ q)) (fun _ i _ => len3 - (intOf i).toNat)
      case atStart => exact ⟨0, _, _, _, Ks, by omega, rfl, rfl, HH, HR, HX, HZL0⟩
      case round =>
        clear HH HR HX HZL0
        obtain ⟨q, v, C, L, Ks, hq, rfl, rfl, HH, HR, HX, HL⟩ := hrel
        obtain ⟨q0, q1, q2, q3⟩ := HA.out.later HH.out.below Hs.out
        rcases Nat.lt_or_ge q len3 with hlt | hge
        · obtain ⟨rfl, hcap1, htb, hx⟩ := HY.out q hlt
          have hx1 := ((below_step' HB.out HH.out.below HB.out.size).cell (p := ⟨ub, uff + q, none⟩) htb).trans hx
          generalize Y q = pk at hx1
          obtain ⟨u, hu, u0, u1⟩ : ∃ u, bits .and .i64 pk 65535 = u ∧ 0 ≤ u ∧ u ≤ 65535 := ⟨_, and_ffff pk, by omega, by omega⟩
          obtain ⟨j, hj, hjt⟩ : ∃ j : Nat, u % t = (j : Int) ∧ j < e := by
            have h1 := Int.emod_nonneg u (show t ≠ 0 by omega)
            have h2 := Int.emod_lt_of_pos u (show 0 < t by omega)
            have h3 := HTN.out
            exact ⟨(u % t).toNat, by omega, by omega⟩
          have hjm : u.tmod t = (j : Int) := by rw [Int.tmod_eq_emod_of_nonneg u0]; exact hj
          obtain ⟨b, b1, b2, k, hk⟩ : ∃ (b b1 b2 : Nat) (k : Pu), Ks[j]? = some (b, b1, b2, k) := ⟨_, _, _, _, List.getElem?_eq_getElem (by have := HR.out.len; omega)⟩
          have hc := HH.out.at' hk
          have HST := Lib.hid (HH.out.call (now := (q : Int)) hk (HR.out.each j b b1 b2 k hk).ok (by omega) (by have := HL.out; omega))
          have HR4 := Lib.hid (HR.out.step hk (by omega) (by omega) HH.out.mem.nn)
          have HE4 := Lib.hid (Pu.ev_le k N nb hz C (q : Int))
          have HX4 := Lib.hid (HX.out.any HR.out hk (by omega) HH.out.mem.nn)
          have HL4 : Hid ((L ++ k.ev N nb hz C (q : Int)).length ≤ q + 1) := by rw [List.length_append]; have := HL.out; have := HE4.out; show _ ≤ _; omega
          have hlt' : (q : Int) < (len3 : Int) := by omega
          clear hk hx HR HX HL HH
          go_wp2_with fail
          refine HST.out.mono ?_
          rintro r w12 ⟨rfl, v12, hH12⟩
          have HH12 := Lib.hid hH12
          clear hH12 HST
          go_wp2_with fail
          go_roundw
          case rel => exact ⟨q + 1, _, _, _, _, by omega, by go_num, by go_num, HH12, HR4, HX4, HL4⟩
          case measure => first | omega | (simp [intOf]; done) | (simp [intOf]; omega)
        · have hge' : ¬ (q : Int) < (len3 : Int) := by omega
          have hq200 : q ≤ 200 := by omega
          have HNW0 : Hid (q ≤ q + 4 * 0) := Nat.le_refl _
          clear q0 q1 q2 q3 hge hq
          go_wp2_with fail
          go_loopw [13, 16] (fun nw i wr => ∃ (n nw' : Nat) (v : Value) (C : List Int) (L : List Ev) (Ks : List PuB4), n ≤ Q ∧ nw = .int .i64 nw' ∧ i = .int .i64 n ∧ Hid (ManyHold W wr 34 p c v C L (.slice (some ⟨g, 0, none⟩) e cap) Ks) ∧ Hid (Many t s so d sn N nb hz e C Ks nw') ∧ Hid (Rest (Q : Int) sn n 0 Ks) ∧ Hid (L.length ≤ nw') ∧ Hid (nw' ≤ q + 4 * n)) (fun _ i _ => 60 - (intOf i).toNat)
          case atStart => exact ⟨0, q, v, C, L, Ks, by omega, rfl, rfl, HH, HR, HX, HL, HNW0⟩
          case round =>
            clear HH HR HX HL HNW0
            obtain ⟨n, nw, v, C, L, Ks, hn, rfl, rfl, HH, HR, HX, HL, HNW⟩ := hrel
            obtain ⟨q0, q1, q2, q3⟩ := HA.out.later HH.out.below Hs.out
            go_wp2_with fail
            refine (HPM.out _).mono ?_
            rintro r w4 ⟨rfl, hb4⟩
            replace HH := Lib.hid (HH.out.later hb4)
            clear hb4 q0 q1 q2 q3
            have hnw : nw ≤ 350 := by have := HNW.out; omega
            rcases Nat.lt_or_ge n Q with hnQ | hnQ
            · have HNW1 : Hid (nw ≤ q + 4 * n + 0) := HNW.out
              have hnn : n + 1 ≤ Q := hnQ
              clear HNW hnw
              go_wp2_with fail
              go_loopw [13, 78] (fun nw i wr => ∃ (j nw' : Nat) (v : Value) (C : List Int) (L : List Ev) (Ks : List PuB4), j ≤ e ∧ nw = .int .i64 nw' ∧ i = .int .i64 j ∧ Hid (ManyHold W wr 34 p c v C L (.slice (some ⟨g, 0, none⟩) e cap) Ks) ∧ Hid (Many t s so d sn N nb hz e C Ks nw') ∧ Hid (Rest (Q : Int) sn n j Ks) ∧ Hid (L.length ≤ nw') ∧ Hid (nw' ≤ q + 4 * n + j)) (fun _ i _ => e - (intOf i).toNat)
              case atStart => exact ⟨0, nw, v, C, L, Ks, by omega, rfl, rfl, HH, HR, HX, HL, HNW1⟩
              case round =>
                clear HH HR HX HL HNW1
                obtain ⟨j, nw, v, C, L, Ks, hj, rfl, rfl, HH, HR, HX, HL, HNW⟩ := hrel
                have hnw : nw ≤ 350 := by have := HNW.out; omega
                rcases Nat.lt_or_ge j e with hlt | hge2
                · have hlt' : (j : Int) < (e : Int) := by omega
                  obtain ⟨b, b1, b2, k, hk⟩ : ∃ (b b1 b2 : Nat) (k : Pu), Ks[j]? = some (b, b1, b2, k) := ⟨_, _, _, _, List.getElem?_eq_getElem (by have := HR.out.len; omega)⟩
                  have hc := HH.out.at' hk
                  have HST := Lib.hid (HH.out.call (now := (nw : Int)) hk (HR.out.each j b b1 b2 k hk).ok (by omega) (by have := HL.out; omega))
                  have HR4 := Lib.hid (HR.out.step hk (by omega) (by omega) HH.out.mem.nn)
                  have HE4 := Lib.hid (Pu.ev_le k N nb hz C (nw : Int))
                  have HX4 := Lib.hid (HX.out.step HR.out hk (by omega) HH.out.mem.nn)
                  have HL4 : Hid ((L ++ k.ev N nb hz C (nw : Int)).length ≤ nw + 1) := by rw [List.length_append]; have := HL.out; have := HE4.out; show _ ≤ _; omega
                  clear hk HR HX HL HH
                  go_wp2_with fail
                  refine HST.out.mono ?_
                  rintro r w12 ⟨rfl, v12, hH12⟩
                  have HH12 := Lib.hid hH12
                  clear hH12 HST
                  go_wp2_with fail
                  go_roundw
                  case rel => exact ⟨j + 1, nw + 1, _, _, _, _, by omega, by go_num, by go_num, HH12, HR4, HX4, HL4, by have := HNW.out; show _ ≤ _; omega⟩
                  case measure => first | omega | (simp [intOf]; done) | (simp [intOf]; omega)
                · have hge3 : ¬ (j : Int) < (e : Int) := by omega
                  obtain rfl : j = e := by omega
                  have HX5 := Lib.hid (HX.out.round HR.out)
                  have HNW5 : Hid (nw ≤ q + 4 * (n + 1)) := by have := HNW.out; show _ ≤ _; omega
                  clear HX HNW
                  go_wp2_with fail
                  go_roundw
                  case rel => exact ⟨n + 1, nw, v, C, L, Ks, by omega, by go_num, by go_num, HH, HR, HX5, HL, HNW5⟩
                  case measure => first | omega | (simp [intOf]; done) | (simp [intOf]; omega)
            · obtain rfl : n = Q := by omega
              have HKL : Hid (Ks.length = e) := HR.out.len
              clear HL HNW
              go_wp2_with fail
              go_loopw [91] (fun i wr => ∃ j : Nat, j ≤ e ∧ i = .int .i64 j ∧ Hid (ManyHold W wr 34 p c v C L (.slice (some ⟨g, 0, none⟩) e cap) Ks)) (fun i _ => e - (intOf i).toNat)
              case atStart => exact ⟨0, by omega, rfl, HH⟩
              case round =>
                clear HH
                obtain ⟨j, hj, rfl, HG⟩ := hrel
                rcases Nat.lt_or_ge j e with hlt | hge2
                · have hlt' : (j : Int) < (e : Int) := by omega
                  obtain ⟨b, b1, b2, k, hk⟩ : ∃ (b b1 b2 : Nat) (k : Pu), Ks[j]? = some (b, b1, b2, k) := ⟨_, _, _, _, List.getElem?_eq_getElem (by have := HKL.out; omega)⟩
                  have hc := HG.out.at' hk
                  have hE := HR.out.each j b b1 b2 k hk
                  have hp1 := HR.out.over HX.out hk
                  obtain ⟨hc1, ht1⟩ := hE.fin hp1
                  obtain ⟨r1, r2, r3, r4, r5, r6, r7⟩ := pack_parts hE.ok hc1 ht1
                  have hst := hE.ok.st ht1
                  have hpk := hE.pack hp1
                  have hval := (hE.value (.inl hp1)).trans hE.same.value
                  have hke : k.e = 1 := hE.same.e
                  have hslt : (if k.ph = 1 then k.cl.slot else -1) = ((j * sn : Nat) : Int) := by rw [if_pos hp1, hE.slot hc1]
                  have hft := HFIT.out j (by have := HTN.out; omega)
                  have hCl := HR.out.cl
                  have hnbe := Hnb.out
                  rw [hke] at r2
                  obtain ⟨lo, hlo⟩ : ∃ lo, k.tk.lo = lo := ⟨_, rfl⟩
                  obtain ⟨hi, hhi⟩ : ∃ hi, k.tk.hi = hi := ⟨_, rfl⟩
                  obtain ⟨g', hg'⟩ : ∃ g', k.cl.wg + 1 = g' := ⟨_, rfl⟩
                  rw [hlo] at r4 hst
                  rw [hhi] at r5 hst
                  rw [hg'] at r3
                  generalize k.pack = P at hpk r1 r2 r3 r4 r5 r6 r7
                  have HP1 := Lib.hid hp1
                  have HSL := Lib.hid hslt
                  have HLO := Lib.hid hlo
                  have HHI := Lib.hid hhi
                  have HGW : Hid (C[j * sn]? = some P) := by show _ = _; rw [getD_pu (by omega), hpk]
                  have HGV : Hid (C[N + j * sn]? = some (100 + (j : Int))) := by show _ = _; rw [getD_pu (by omega)]; exact congrArg some hval
                  have HPP : Hid (P % 4 = 1 ∧ P / 4 % 2 = 1 ∧ P / 8 % 8192 = g' ∧ P / 65536 % 16777216 = lo ∧ P / 1099511627776 = hi ∧ 0 ≤ P ∧ P ≤ 18446744073709551615) := ⟨r1, r2, r3, r4, r5, r6, r7⟩
                  have HRT : Hid (rightB lo hi = true) := by show _ = _; unfold rightB; exact decide_eq_true (by omega)
                  have HES : Hid ((j : Int) * s = ((j * sn : Nat) : Int)) := by show _ = _; rw [HSN.out, Int.natCast_mul]
                  have het : (j : Int) < t := by have := HTN.out; omega
                  have hjs1 : ((j * sn : Nat) : Int) ≤ (N : Int) := by omega
                  have HPr := Lib.hid (HG.out.pu hk)
                  have HMr := Lib.hid HG.out.mem
                  have HAr := Lib.hid (HA.out.later HG.out.below Hs.out)
                  have HCB : Hid (cb < wr.heap.size) := by have := Hs.out; have := HG.out.size; show _ < _; omega
                  have HH : Hid (Hold wr wr []) := Hold.nil (Below.refl _ _)
                  have hwu : IntKind.u64.wrap (100 + (j : Int)) = 100 + (j : Int) := by rw [IntKind.wrap_u64]; omega
                  have hwi : IntKind.i64.wrap (100 + (j : Int)) = 100 + (j : Int) := IntWalk.i64_in _ (by omega)
                  obtain ⟨wl, hwl⟩ : ∃ wl, wl = wr := ⟨_, rfl⟩
                  clear hk hE hp1 hc1 ht1 r1 r2 r3 r4 r5 r6 r7 hst hpk hval hke hslt hft hCl hnbe hlo hhi hg'
                  obtain ⟨q0, q1, q2, q3⟩ := HAr.out
                  go_wp2_with fail
                  refine wp_region_seqS ((fun w' => AtC w' cb t s so d)) ((0, true) :: (1, false) :: (2, true) :: (3, true) :: (4, true) :: (6, true) :: (7, true) :: (5, false) :: (8, false) :: (9, true) :: (10, true) :: (11, true) :: (12, true) :: (13, true) :: (14, true) :: (18, true) :: (19, true) :: (20, true) :: (15, false) :: (16, false) :: (17, false) :: (21, true) :: (22, true) :: (23, true) :: (24, true) :: (25, false) :: (26, false) :: (27, true) :: (28, true) :: []) (by kernel_rfl) (by kernel_rfl) (by kernel_rfl) (by decide) (fun _ _ _ _ _ h => h) (HAr.out.later (Hold.below (Hold.drew HH.out)) HCB.out) ?_
                  replace HH := Lib.hid (Hold.drew HH.out)
                  clear q0 q1 q2 q3
                  repeat (first | (refine seq_take (v := ?_) rfl ?_ ?_ ?_; rotate_left 1; rfl; (focus (intro wS hSw; obtain ⟨c0, c1, c2, c3⟩ := hSw; go_simp; first | done | with_reducible rfl)); (try simp only [Act.put, List.setIfInBounds_toArray, List.set_cons_zero, List.set_cons_succ])) | (refine seq_skip rfl ?_ ?_; rfl; (try simp only [Act.put, List.setIfInBounds_toArray, List.set_cons_zero, List.set_cons_succ])))
                  refine seq_run rfl (fun K hK => ?_)
                  go_simp
                  go_at_call 41
                  refine (quiet_below (puphase_at 1 HP1.out (HPr.out.later (Hold.below HH.out)))).mono ?_
                  rintro r wn ⟨rfl, hbn⟩
                  (try go_wp2_with fail)
                  replace HH := Lib.hid (Hold.later HH.out hbn)
                  clear hbn
                  refine hK.out _ _ (HAr.out.later (Hold.below HH.out) HCB.out) (fun _ => ?_)
                  (try simp only [Act.put, List.setIfInBounds_toArray, List.set_cons_zero, List.set_cons_succ])
                  clear hK K
                  repeat (first | (refine seq_take (v := ?_) rfl ?_ ?_ ?_; rotate_left 1; rfl; (focus (intro wS hSw; obtain ⟨c0, c1, c2, c3⟩ := hSw; go_simp; first | done | with_reducible rfl)); (try simp only [Act.put, List.setIfInBounds_toArray, List.set_cons_zero, List.set_cons_succ])) | (refine seq_skip rfl ?_ ?_; rfl; (try simp only [Act.put, List.setIfInBounds_toArray, List.set_cons_zero, List.set_cons_succ])))
                  refine seq_run rfl (fun K hK => ?_)
                  go_simp
                  go_at_call 36
                  refine (quiet_below (puslot_at ((j * sn : Nat) : Int) HSL.out (HPr.out.later (Hold.below HH.out)))).mono ?_
                  rintro r wn ⟨rfl, hbn⟩
                  (try go_wp2_with fail)
                  replace HH := Lib.hid (Hold.later HH.out hbn)
                  clear hbn
                  refine hK.out _ _ (HAr.out.later (Hold.below HH.out) HCB.out) (fun _ => ?_)
                  (try simp only [Act.put, List.setIfInBounds_toArray, List.set_cons_zero, List.set_cons_succ])
                  clear hK K
                  repeat (first | (refine seq_take (v := ?_) rfl ?_ ?_ ?_; rotate_left 1; rfl; (focus (intro wS hSw; obtain ⟨c0, c1, c2, c3⟩ := hSw; go_simp; first | done | with_reducible rfl)); (try simp only [Act.put, List.setIfInBounds_toArray, List.set_cons_zero, List.set_cons_succ])) | (refine seq_skip rfl ?_ ?_; rfl; (try simp only [Act.put, List.setIfInBounds_toArray, List.set_cons_zero, List.set_cons_succ])))
                  refine seq_run rfl (fun K hK => ?_)
                  go_simp
                  go_at_call 49
                  refine (cfirst_any t s so d N j ((j * sn : Nat) : Int) _ hlay (by omega) het HES.out (by omega) (by omega)).mono ?_
                  rintro r wn ⟨rfl, hbn⟩
                  (try go_wp2_with fail)
                  replace HH := Lib.hid (Hold.later HH.out hbn)
                  clear hbn
                  refine hK.out _ _ (HAr.out.later (Hold.below HH.out) HCB.out) (fun _ => ?_)
                  (try simp only [Act.put, List.setIfInBounds_toArray, List.set_cons_zero, List.set_cons_succ])
                  clear hK K
                  repeat (first | (refine seq_take (v := ?_) rfl ?_ ?_ ?_; rotate_left 1; rfl; (focus (intro wS hSw; obtain ⟨c0, c1, c2, c3⟩ := hSw; go_simp; first | done | with_reducible rfl)); (try simp only [Act.put, List.setIfInBounds_toArray, List.set_cons_zero, List.set_cons_succ])) | (refine seq_skip rfl ?_ ?_; rfl; (try simp only [Act.put, List.setIfInBounds_toArray, List.set_cons_zero, List.set_cons_succ])))
                  refine seq_run rfl (fun K hK => ?_)
                  go_simp
                  go_at_call 36
                  refine (quiet_below (puslot_at ((j * sn : Nat) : Int) HSL.out (HPr.out.later (Hold.below HH.out)))).mono ?_
                  rintro r wn ⟨rfl, hbn⟩
                  (try go_wp2_with fail)
                  replace HH := Lib.hid (Hold.later HH.out hbn)
                  clear hbn
                  refine hK.out _ _ (HAr.out.later (Hold.below HH.out) HCB.out) (fun _ => ?_)
                  (try simp only [Act.put, List.setIfInBounds_toArray, List.set_cons_zero, List.set_cons_succ])
                  clear hK K
                  repeat (first | (refine seq_take (v := ?_) rfl ?_ ?_ ?_; rotate_left 1; rfl; (focus (intro wS hSw; obtain ⟨c0, c1, c2, c3⟩ := hSw; go_simp; first | done | with_reducible rfl)); (try simp only [Act.put, List.setIfInBounds_toArray, List.set_cons_zero, List.set_cons_succ])) | (refine seq_skip rfl ?_ ?_; rfl; (try simp only [Act.put, List.setIfInBounds_toArray, List.set_cons_zero, List.set_cons_succ])))
                  refine seq_run rfl (fun K hK => ?_)
                  go_simp
                  go_at_call 28
                  refine (pvalue_at t s so d N _ (N + j * sn) _ hlay (by omega) (by omega) (by omega)).mono ?_
                  rintro r wn ⟨rfl, hbn⟩
                  (try go_wp2_with fail)
                  replace HH := Lib.hid (Hold.later HH.out hbn)
                  clear hbn
                  refine hK.out _ _ (HAr.out.later (Hold.below HH.out) HCB.out) (fun _ => ?_)
                  (try simp only [Act.put, List.setIfInBounds_toArray, List.set_cons_zero, List.set_cons_succ])
                  clear hK K
                  repeat (first | (refine seq_take (v := ?_) rfl ?_ ?_ ?_; rotate_left 1; rfl; (focus (intro wS hSw; obtain ⟨c0, c1, c2, c3⟩ := hSw; go_simp; first | done | with_reducible rfl)); (try simp only [Act.put, List.setIfInBounds_toArray, List.set_cons_zero, List.set_cons_succ])) | (refine seq_skip rfl ?_ ?_; rfl; (try simp only [Act.put, List.setIfInBounds_toArray, List.set_cons_zero, List.set_cons_succ])))
                  refine seq_run rfl (fun K hK => ?_)
                  go_simp
                  go_at_call 44
                  refine (quiet_below (peek_in W.heap.size _ p c _ _ _ (N + j * sn) (100 + (j : Int)) (HMr.out.later (Hold.below HH.out)) HGV.out)).mono ?_
                  rintro r wn ⟨rfl, hbn⟩
                  (try go_wp2_with fail)
                  replace HH := Lib.hid (Hold.later HH.out hbn)
                  clear hbn
                  refine hK.out _ _ (HAr.out.later (Hold.below HH.out) HCB.out) (fun _ => ?_)
                  (try simp only [Act.put, List.setIfInBounds_toArray, List.set_cons_zero, List.set_cons_succ])
                  clear hK K
                  repeat (first | (refine seq_take (v := ?_) rfl ?_ ?_ ?_; rotate_left 1; rfl; (focus (intro wS hSw; obtain ⟨c0, c1, c2, c3⟩ := hSw; go_simp; first | done | with_reducible rfl)); (try simp only [Act.put, List.setIfInBounds_toArray, List.set_cons_zero, List.set_cons_succ])) | (refine seq_skip rfl ?_ ?_; rfl; (try simp only [Act.put, List.setIfInBounds_toArray, List.set_cons_zero, List.set_cons_succ])))
                  refine seq_run rfl (fun K hK => ?_)
                  go_simp
                  go_at_call 37
                  refine (pustamp_at lo hi HP1.out HLO.out HHI.out (HPr.out.later (Hold.below HH.out))).mono ?_
                  rintro r wn ⟨rfl, hbn⟩
                  (try go_wp2_with fail)
                  replace HH := Lib.hid (Hold.later HH.out hbn)
                  clear hbn
                  refine hK.out _ _ (HAr.out.later (Hold.below HH.out) HCB.out) (fun _ => ?_)
                  (try simp only [Act.put, List.setIfInBounds_toArray, List.set_cons_zero, List.set_cons_succ])
                  clear hK K
                  repeat (first | (refine seq_take (v := ?_) rfl ?_ ?_ ?_; rotate_left 1; rfl; (focus (intro wS hSw; obtain ⟨c0, c1, c2, c3⟩ := hSw; go_simp; first | done | with_reducible rfl)); (try simp only [Act.put, List.setIfInBounds_toArray, List.set_cons_zero, List.set_cons_succ])) | (refine seq_skip rfl ?_ ?_; rfl; (try simp only [Act.put, List.setIfInBounds_toArray, List.set_cons_zero, List.set_cons_succ])))
                  refine seq_run rfl (fun K hK => ?_)
                  go_simp
                  go_at_call 50
                  refine (right_at lo hi _ HRT.out).mono ?_
                  rintro r wn ⟨rfl, hbn⟩
                  (try go_wp2_with fail)
                  replace HH := Lib.hid (Hold.later HH.out hbn)
                  clear hbn
                  refine hK.out _ _ (HAr.out.later (Hold.below HH.out) HCB.out) (fun _ => ?_)
                  (try simp only [Act.put, List.setIfInBounds_toArray, List.set_cons_zero, List.set_cons_succ])
                  clear hK K
                  repeat (first | (refine seq_take (v := ?_) rfl ?_ ?_ ?_; rotate_left 1; rfl; (focus (intro wS hSw; obtain ⟨c0, c1, c2, c3⟩ := hSw; go_simp; first | done | with_reducible rfl)); (try simp only [Act.put, List.setIfInBounds_toArray, List.set_cons_zero, List.set_cons_succ])) | (refine seq_skip rfl ?_ ?_; rfl; (try simp only [Act.put, List.setIfInBounds_toArray, List.set_cons_zero, List.set_cons_succ])))
                  refine seq_done ?_
                  clear hwl wl
                  go_wp2_with fail
                  obtain ⟨wl, hwl⟩ : ∃ wl, wl = wn := ⟨_, rfl⟩
                  rw [← hwl] at HH ⊢
                  clear hwl hwu hwi
                  go_cut [21] (fun s21 wx => ∃ bx, s21 = .pointer (some ⟨bx, 0, none⟩) ∧ Hid (Hold wr wx ([] ++ [tObj wr.heap.size bx [.int .i64 1, .int .i64 1, .int .i64 g', .int .i64 lo, .int .i64 hi]])))
                  case first =>
                    refine wp_region_seqT (fun w' => AtC w' cb t s so d) (.take 0 (.take 1 (.take 2 (.two 3 (.two 4 (.two 5 (.two 6 (.one 7 (.one 8 .nil)) 7 (.one 6 (.one 8 .nil))) 7 (.one 5 (.one 6 (.one 8 .nil)))) 7 (.one 4 (.one 5 (.one 6 (.one 8 .nil))))) 7 (.one 3 (.one 4 (.one 5 (.one 6 (.one 8 .nil))))))))) (by kernel_rfl) (by kernel_rfl) (by kernel_rfl) (by decide) (fun _ _ _ _ _ h => h) (HAr.out.later (Hold.below (Hold.drew HH.out)) HCB.out) ?_
                    repeat (refine seqT_take (v := ?_) rfl ?_ ?_ ?_; rotate_left 1; rfl; (focus (intro wS hSw; obtain ⟨c0, c1, c2, c3⟩ := hSw; go_simp; first | done | with_reducible rfl)); (try simp only [Act.put, List.setIfInBounds_toArray, List.set_cons_zero, List.set_cons_succ]))
                    replace HH := Lib.hid (Hold.drew HH.out)
                    generalize wl.drew = ww0 at HH ⊢
                    refine ⟨?_, ?_⟩
                    · refine runT rfl (fun K hK => ?_)
                      go_simp
                      go_at_call 36
                      refine (quiet_below (puslot_at ((j * sn : Nat) : Int) HSL.out (HPr.out.later (Hold.below HH.out)))).mono ?_
                      rintro r ww1 ⟨rfl, hb⟩
                      (try go_wp2_with fail)
                      replace HH := Lib.hid (Hold.later HH.out hb)
                      clear hb
                      refine hK.out _ _ (HAr.out.later (Hold.below HH.out) HCB.out) (fun _ => ?_)
                      (try simp only [Act.put, List.setIfInBounds_toArray, List.set_cons_zero, List.set_cons_succ])
                      clear hK K
                      try clear ww0
                      refine ⟨?_, ?_⟩
                      · refine runT rfl (fun K hK => ?_)
                        go_simp
                        go_at_call 32
                        refine (pword_at t s so d _ (j * sn) _ rfl).mono ?_
                        rintro r ww2 ⟨rfl, hb⟩
                        (try go_wp2_with fail)
                        replace HH := Lib.hid (Hold.later HH.out hb)
                        clear hb
                        refine hK.out _ _ (HAr.out.later (Hold.below HH.out) HCB.out) (fun _ => ?_)
                        (try simp only [Act.put, List.setIfInBounds_toArray, List.set_cons_zero, List.set_cons_succ])
                        clear hK K
                        try clear ww1
                        refine ⟨?_, ?_⟩
                        · refine runT rfl (fun K hK => ?_)
                          go_simp
                          go_at_call 44
                          refine (quiet_below (peek_in W.heap.size _ p c _ _ _ (j * sn) P (HMr.out.later (Hold.below HH.out)) HGW.out)).mono ?_
                          rintro r ww3 ⟨rfl, hb⟩
                          (try go_wp2_with fail)
                          replace HH := Lib.hid (Hold.later HH.out hb)
                          clear hb
                          refine hK.out _ _ (HAr.out.later (Hold.below HH.out) HCB.out) (fun _ => ?_)
                          (try simp only [Act.put, List.setIfInBounds_toArray, List.set_cons_zero, List.set_cons_succ])
                          clear hK K
                          try clear ww2
                          refine ⟨?_, ?_⟩
                          · refine runT rfl (fun K hK => ?_)
                            go_simp
                            go_at_call 45
                            refine (unpack_at P 1 1 g' lo hi _ HPP.out).mono ?_
                            rintro r ww4 ⟨rfl, hb⟩
                            (try go_wp2_with fail)
                            replace HH := Lib.hid (Hold.later HH.out hb)
                            clear hb
                            refine hK.out _ _ (HAr.out.later (Hold.below HH.out) HCB.out) (fun _ => ?_)
                            (try simp only [Act.put, List.setIfInBounds_toArray, List.set_cons_zero, List.set_cons_succ])
                            clear hK K
                            try clear ww3
                            refine runT rfl (fun K hK => ?_)
                            go_simp
                            have hb := below_new (Below.refl ww4.heap.size ww4) (.cells #[i64 0, i64 0, i64 0, i64 0, i64 0] 54)
                            replace HH : Hid (Hold wr (ww4.alloc (.cells #[i64 0, i64 0, i64 0, i64 0, i64 0] 54)) ([] ++ [tObj wr.heap.size ww4.heap.size [i64 0, i64 0, i64 0, i64 0, i64 0]])) := Hold.more HH.out hb (tObj_ok _ _ _) ⟨IsObj.made ww4 [i64 0, i64 0, i64 0, i64 0, i64 0] 54, HH.out.size⟩ (fun q hq => by cases hq; exact Nat.le_refl _)
                            clear hb
                            generalize ww4.alloc (.cells #[i64 0, i64 0, i64 0, i64 0, i64 0] 54) = ww5 at HH ⊢
                            generalize ww4.heap.size = bx at HH ⊢
                            refine hK.out _ _ (HAr.out.later (Hold.below HH.out) HCB.out) (fun _ => ?_)
                            (try simp only [Act.put, List.setIfInBounds_toArray, List.set_cons_zero, List.set_cons_succ])
                            clear hK K
                            try clear ww4
                            refine runT rfl (fun K hK => ?_)
                            have hbx : IsObj ww5 bx [i64 0, i64 0, i64 0, i64 0, i64 0] := (Hold.has HH.out 0 _ rfl).1
                            have q0 := hbx.at' 0 _ rfl
                            have q1 := hbx.at' 1 _ rfl
                            have q2 := hbx.at' 2 _ rfl
                            have q3 := hbx.at' 3 _ rfl
                            have q4 := hbx.at' 4 _ rfl
                            have f0 := hbx.fz 0
                            have f1 := hbx.fz 1
                            have f2 := hbx.fz 2
                            have f3 := hbx.fz 3
                            have f4 := hbx.fz 4
                            go_simp
                            clear q0 f0 q1 f1 q2 f2 q3 f3 q4 f4 hbx
                            replace HH := Lib.hid (Hold.setBox HH.out 0 rfl 0 (i64 1))
                            replace HH := Lib.hid (Hold.setBox HH.out 0 rfl 1 (i64 1))
                            replace HH := Lib.hid (Hold.setBox HH.out 0 rfl 2 (i64 g'))
                            replace HH := Lib.hid (Hold.setBox HH.out 0 rfl 3 (i64 lo))
                            replace HH := Lib.hid (Hold.setBox HH.out 0 rfl 4 (i64 hi))
                            replace HH : Hid (Hold wr (((((ww5.setCell ⟨bx, 0, none⟩ (i64 1)).setCell ⟨bx, 1, none⟩ (i64 1)).setCell ⟨bx, 2, none⟩ (i64 g')).setCell ⟨bx, 3, none⟩ (i64 lo)).setCell ⟨bx, 4, none⟩ (i64 hi)) ([] ++ [tObj wr.heap.size bx [i64 1, i64 1, i64 g', i64 lo, i64 hi]])) := HH.out
                            generalize (((((ww5.setCell ⟨bx, 0, none⟩ (i64 1)).setCell ⟨bx, 1, none⟩ (i64 1)).setCell ⟨bx, 2, none⟩ (i64 g')).setCell ⟨bx, 3, none⟩ (i64 lo)).setCell ⟨bx, 4, none⟩ (i64 hi)) = wz at HH ⊢
                            refine hK.out _ _ (HAr.out.later (Hold.below HH.out) HCB.out) (fun _ => ?_)
                            (try simp only [Act.put, List.setIfInBounds_toArray, List.set_cons_zero, List.set_cons_succ])
                            clear hK K
                            refine seqT_done ?_
                            go_wp2_with fail
                            go_meet
                            exact ⟨bx, rfl, HH⟩
                          · refine runT rfl (fun K hK => ?_)
                            go_simp
                            have hb := below_new (Below.refl ww3.heap.size ww3) (.cells #[i64 0, i64 0, i64 0, i64 0, i64 0] 54)
                            replace HH : Hid (Hold wr (ww3.alloc (.cells #[i64 0, i64 0, i64 0, i64 0, i64 0] 54)) ([] ++ [tObj wr.heap.size ww3.heap.size [i64 0, i64 0, i64 0, i64 0, i64 0]])) := Hold.more HH.out hb (tObj_ok _ _ _) ⟨IsObj.made ww3 [i64 0, i64 0, i64 0, i64 0, i64 0] 54, HH.out.size⟩ (fun q hq => by cases hq; exact Nat.le_refl _)
                            clear hb
                            generalize ww3.alloc (.cells #[i64 0, i64 0, i64 0, i64 0, i64 0] 54) = ww4 at HH ⊢
                            generalize ww3.heap.size = bx at HH ⊢
                            refine hK.out _ _ (HAr.out.later (Hold.below HH.out) HCB.out) (fun _ => ?_)
                            (try simp only [Act.put, List.setIfInBounds_toArray, List.set_cons_zero, List.set_cons_succ])
                            clear hK K
                            try clear ww3
                            refine runT rfl (fun K hK => ?_)
                            go_simp
                            go_at_call 45
                            refine (unpack_at P 1 1 g' lo hi _ HPP.out).mono ?_
                            rintro r ww5 ⟨rfl, hb⟩
                            (try go_wp2_with fail)
                            replace HH := Lib.hid (Hold.later HH.out hb)
                            clear hb
                            refine hK.out _ _ (HAr.out.later (Hold.below HH.out) HCB.out) (fun _ => ?_)
                            (try simp only [Act.put, List.setIfInBounds_toArray, List.set_cons_zero, List.set_cons_succ])
                            clear hK K
                            try clear ww4
                            refine runT rfl (fun K hK => ?_)
                            have hbx : IsObj ww5 bx [i64 0, i64 0, i64 0, i64 0, i64 0] := (Hold.has HH.out 0 _ rfl).1
                            have q0 := hbx.at' 0 _ rfl
                            have q1 := hbx.at' 1 _ rfl
                            have q2 := hbx.at' 2 _ rfl
                            have q3 := hbx.at' 3 _ rfl
                            have q4 := hbx.at' 4 _ rfl
                            have f0 := hbx.fz 0
                            have f1 := hbx.fz 1
                            have f2 := hbx.fz 2
                            have f3 := hbx.fz 3
                            have f4 := hbx.fz 4
                            go_simp
                            clear q0 f0 q1 f1 q2 f2 q3 f3 q4 f4 hbx
                            replace HH := Lib.hid (Hold.setBox HH.out 0 rfl 0 (i64 1))
                            replace HH := Lib.hid (Hold.setBox HH.out 0 rfl 1 (i64 1))
                            replace HH := Lib.hid (Hold.setBox HH.out 0 rfl 2 (i64 g'))
                            replace HH := Lib.hid (Hold.setBox HH.out 0 rfl 3 (i64 lo))
                            replace HH := Lib.hid (Hold.setBox HH.out 0 rfl 4 (i64 hi))
                            replace HH : Hid (Hold wr (((((ww5.setCell ⟨bx, 0, none⟩ (i64 1)).setCell ⟨bx, 1, none⟩ (i64 1)).setCell ⟨bx, 2, none⟩ (i64 g')).setCell ⟨bx, 3, none⟩ (i64 lo)).setCell ⟨bx, 4, none⟩ (i64 hi)) ([] ++ [tObj wr.heap.size bx [i64 1, i64 1, i64 g', i64 lo, i64 hi]])) := HH.out
                            generalize (((((ww5.setCell ⟨bx, 0, none⟩ (i64 1)).setCell ⟨bx, 1, none⟩ (i64 1)).setCell ⟨bx, 2, none⟩ (i64 g')).setCell ⟨bx, 3, none⟩ (i64 lo)).setCell ⟨bx, 4, none⟩ (i64 hi)) = wz at HH ⊢
                            refine hK.out _ _ (HAr.out.later (Hold.below HH.out) HCB.out) (fun _ => ?_)
                            (try simp only [Act.put, List.setIfInBounds_toArray, List.set_cons_zero, List.set_cons_succ])
                            clear hK K
                            refine seqT_done ?_
                            go_wp2_with fail
                            go_meet
                            exact ⟨bx, rfl, HH⟩
                        · refine runT rfl (fun K hK => ?_)
                          go_simp
                          have hb := below_new (Below.refl ww2.heap.size ww2) (.cells #[i64 0, i64 0, i64 0, i64 0, i64 0] 54)
                          replace HH : Hid (Hold wr (ww2.alloc (.cells #[i64 0, i64 0, i64 0, i64 0, i64 0] 54)) ([] ++ [tObj wr.heap.size ww2.heap.size [i64 0, i64 0, i64 0, i64 0, i64 0]])) := Hold.more HH.out hb (tObj_ok _ _ _) ⟨IsObj.made ww2 [i64 0, i64 0, i64 0, i64 0, i64 0] 54, HH.out.size⟩ (fun q hq => by cases hq; exact Nat.le_refl _)
                          clear hb
                          generalize ww2.alloc (.cells #[i64 0, i64 0, i64 0, i64 0, i64 0] 54) = ww3 at HH ⊢
                          generalize ww2.heap.size = bx at HH ⊢
                          refine hK.out _ _ (HAr.out.later (Hold.below HH.out) HCB.out) (fun _ => ?_)
                          (try simp only [Act.put, List.setIfInBounds_toArray, List.set_cons_zero, List.set_cons_succ])
                          clear hK K
                          try clear ww2
                          refine runT rfl (fun K hK => ?_)
                          go_simp
                          go_at_call 44
                          refine (quiet_below (peek_in W.heap.size _ p c _ _ _ (j * sn) P (HMr.out.later (Hold.below HH.out)) HGW.out)).mono ?_
                          rintro r ww4 ⟨rfl, hb⟩
                          (try go_wp2_with fail)
                          replace HH := Lib.hid (Hold.later HH.out hb)
                          clear hb
                          refine hK.out _ _ (HAr.out.later (Hold.below HH.out) HCB.out) (fun _ => ?_)
                          (try simp only [Act.put, List.setIfInBounds_toArray, List.set_cons_zero, List.set_cons_succ])
                          clear hK K
                          try clear ww3
                          refine runT rfl (fun K hK => ?_)
                          go_simp
                          go_at_call 45
                          refine (unpack_at P 1 1 g' lo hi _ HPP.out).mono ?_
                          rintro r ww5 ⟨rfl, hb⟩
                          (try go_wp2_with fail)
                          replace HH := Lib.hid (Hold.later HH.out hb)
                          clear hb
                          refine hK.out _ _ (HAr.out.later (Hold.below HH.out) HCB.out) (fun _ => ?_)
                          (try simp only [Act.put, List.setIfInBounds_toArray, List.set_cons_zero, List.set_cons_succ])
                          clear hK K
                          try clear ww4
                          refine runT rfl (fun K hK => ?_)
                          have hbx : IsObj ww5 bx [i64 0, i64 0, i64 0, i64 0, i64 0] := (Hold.has HH.out 0 _ rfl).1
                          have q0 := hbx.at' 0 _ rfl
                          have q1 := hbx.at' 1 _ rfl
                          have q2 := hbx.at' 2 _ rfl
                          have q3 := hbx.at' 3 _ rfl
                          have q4 := hbx.at' 4 _ rfl
                          have f0 := hbx.fz 0
                          have f1 := hbx.fz 1
                          have f2 := hbx.fz 2
                          have f3 := hbx.fz 3
                          have f4 := hbx.fz 4
                          go_simp
                          clear q0 f0 q1 f1 q2 f2 q3 f3 q4 f4 hbx
                          replace HH := Lib.hid (Hold.setBox HH.out 0 rfl 0 (i64 1))
                          replace HH := Lib.hid (Hold.setBox HH.out 0 rfl 1 (i64 1))
                          replace HH := Lib.hid (Hold.setBox HH.out 0 rfl 2 (i64 g'))
                          replace HH := Lib.hid (Hold.setBox HH.out 0 rfl 3 (i64 lo))
                          replace HH := Lib.hid (Hold.setBox HH.out 0 rfl 4 (i64 hi))
                          replace HH : Hid (Hold wr (((((ww5.setCell ⟨bx, 0, none⟩ (i64 1)).setCell ⟨bx, 1, none⟩ (i64 1)).setCell ⟨bx, 2, none⟩ (i64 g')).setCell ⟨bx, 3, none⟩ (i64 lo)).setCell ⟨bx, 4, none⟩ (i64 hi)) ([] ++ [tObj wr.heap.size bx [i64 1, i64 1, i64 g', i64 lo, i64 hi]])) := HH.out
                          generalize (((((ww5.setCell ⟨bx, 0, none⟩ (i64 1)).setCell ⟨bx, 1, none⟩ (i64 1)).setCell ⟨bx, 2, none⟩ (i64 g')).setCell ⟨bx, 3, none⟩ (i64 lo)).setCell ⟨bx, 4, none⟩ (i64 hi)) = wz at HH ⊢
                          refine hK.out _ _ (HAr.out.later (Hold.below HH.out) HCB.out) (fun _ => ?_)
                          (try simp only [Act.put, List.setIfInBounds_toArray, List.set_cons_zero, List.set_cons_succ])
                          clear hK K
                          refine seqT_done ?_
                          go_wp2_with fail
                          go_meet
                          exact ⟨bx, rfl, HH⟩
                      · refine runT rfl (fun K hK => ?_)
                        go_simp
                        have hb := below_new (Below.refl ww1.heap.size ww1) (.cells #[i64 0, i64 0, i64 0, i64 0, i64 0] 54)
                        replace HH : Hid (Hold wr (ww1.alloc (.cells #[i64 0, i64 0, i64 0, i64 0, i64 0] 54)) ([] ++ [tObj wr.heap.size ww1.heap.size [i64 0, i64 0, i64 0, i64 0, i64 0]])) := Hold.more HH.out hb (tObj_ok _ _ _) ⟨IsObj.made ww1 [i64 0, i64 0, i64 0, i64 0, i64 0] 54, HH.out.size⟩ (fun q hq => by cases hq; exact Nat.le_refl _)
                        clear hb
                        generalize ww1.alloc (.cells #[i64 0, i64 0, i64 0, i64 0, i64 0] 54) = ww2 at HH ⊢
                        generalize ww1.heap.size = bx at HH ⊢
                        refine hK.out _ _ (HAr.out.later (Hold.below HH.out) HCB.out) (fun _ => ?_)
                        (try simp only [Act.put, List.setIfInBounds_toArray, List.set_cons_zero, List.set_cons_succ])
                        clear hK K
                        try clear ww1
                        refine runT rfl (fun K hK => ?_)
                        go_simp
                        go_at_call 32
                        refine (pword_at t s so d _ (j * sn) _ rfl).mono ?_
                        rintro r ww3 ⟨rfl, hb⟩
                        (try go_wp2_with fail)
                        replace HH := Lib.hid (Hold.later HH.out hb)
                        clear hb
                        refine hK.out _ _ (HAr.out.later (Hold.below HH.out) HCB.out) (fun _ => ?_)
                        (try simp only [Act.put, List.setIfInBounds_toArray, List.set_cons_zero, List.set_cons_succ])
                        clear hK K
                        try clear ww2
                        refine runT rfl (fun K hK => ?_)
                        go_simp
                        go_at_call 44
                        refine (quiet_below (peek_in W.heap.size _ p c _ _ _ (j * sn) P (HMr.out.later (Hold.below HH.out)) HGW.out)).mono ?_
                        rintro r ww4 ⟨rfl, hb⟩
                        (try go_wp2_with fail)
                        replace HH := Lib.hid (Hold.later HH.out hb)
                        clear hb
                        refine hK.out _ _ (HAr.out.later (Hold.below HH.out) HCB.out) (fun _ => ?_)
                        (try simp only [Act.put, List.setIfInBounds_toArray, List.set_cons_zero, List.set_cons_succ])
                        clear hK K
                        try clear ww3
                        refine runT rfl (fun K hK => ?_)
                        go_simp
                        go_at_call 45
                        refine (unpack_at P 1 1 g' lo hi _ HPP.out).mono ?_
                        rintro r ww5 ⟨rfl, hb⟩
                        (try go_wp2_with fail)
                        replace HH := Lib.hid (Hold.later HH.out hb)
                        clear hb
                        refine hK.out _ _ (HAr.out.later (Hold.below HH.out) HCB.out) (fun _ => ?_)
                        (try simp only [Act.put, List.setIfInBounds_toArray, List.set_cons_zero, List.set_cons_succ])
                        clear hK K
                        try clear ww4
                        refine runT rfl (fun K hK => ?_)
                        have hbx : IsObj ww5 bx [i64 0, i64 0, i64 0, i64 0, i64 0] := (Hold.has HH.out 0 _ rfl).1
                        have q0 := hbx.at' 0 _ rfl
                        have q1 := hbx.at' 1 _ rfl
                        have q2 := hbx.at' 2 _ rfl
                        have q3 := hbx.at' 3 _ rfl
                        have q4 := hbx.at' 4 _ rfl
                        have f0 := hbx.fz 0
                        have f1 := hbx.fz 1
                        have f2 := hbx.fz 2
                        have f3 := hbx.fz 3
                        have f4 := hbx.fz 4
                        go_simp
                        clear q0 f0 q1 f1 q2 f2 q3 f3 q4 f4 hbx
                        replace HH := Lib.hid (Hold.setBox HH.out 0 rfl 0 (i64 1))
                        replace HH := Lib.hid (Hold.setBox HH.out 0 rfl 1 (i64 1))
                        replace HH := Lib.hid (Hold.setBox HH.out 0 rfl 2 (i64 g'))
                        replace HH := Lib.hid (Hold.setBox HH.out 0 rfl 3 (i64 lo))
                        replace HH := Lib.hid (Hold.setBox HH.out 0 rfl 4 (i64 hi))
                        replace HH : Hid (Hold wr (((((ww5.setCell ⟨bx, 0, none⟩ (i64 1)).setCell ⟨bx, 1, none⟩ (i64 1)).setCell ⟨bx, 2, none⟩ (i64 g')).setCell ⟨bx, 3, none⟩ (i64 lo)).setCell ⟨bx, 4, none⟩ (i64 hi)) ([] ++ [tObj wr.heap.size bx [i64 1, i64 1, i64 g', i64 lo, i64 hi]])) := HH.out
                        generalize (((((ww5.setCell ⟨bx, 0, none⟩ (i64 1)).setCell ⟨bx, 1, none⟩ (i64 1)).setCell ⟨bx, 2, none⟩ (i64 g')).setCell ⟨bx, 3, none⟩ (i64 lo)).setCell ⟨bx, 4, none⟩ (i64 hi)) = wz at HH ⊢
                        refine hK.out _ _ (HAr.out.later (Hold.below HH.out) HCB.out) (fun _ => ?_)
                        (try simp only [Act.put, List.setIfInBounds_toArray, List.set_cons_zero, List.set_cons_succ])
                        clear hK K
                        refine seqT_done ?_
                        go_wp2_with fail
                        go_meet
                        exact ⟨bx, rfl, HH⟩
                    · refine runT rfl (fun K hK => ?_)
                      go_simp
                      have hb := below_new (Below.refl ww0.heap.size ww0) (.cells #[i64 0, i64 0, i64 0, i64 0, i64 0] 54)
                      replace HH : Hid (Hold wr (ww0.alloc (.cells #[i64 0, i64 0, i64 0, i64 0, i64 0] 54)) ([] ++ [tObj wr.heap.size ww0.heap.size [i64 0, i64 0, i64 0, i64 0, i64 0]])) := Hold.more HH.out hb (tObj_ok _ _ _) ⟨IsObj.made ww0 [i64 0, i64 0, i64 0, i64 0, i64 0] 54, HH.out.size⟩ (fun q hq => by cases hq; exact Nat.le_refl _)
                      clear hb
                      generalize ww0.alloc (.cells #[i64 0, i64 0, i64 0, i64 0, i64 0] 54) = ww1 at HH ⊢
                      generalize ww0.heap.size = bx at HH ⊢
                      refine hK.out _ _ (HAr.out.later (Hold.below HH.out) HCB.out) (fun _ => ?_)
                      (try simp only [Act.put, List.setIfInBounds_toArray, List.set_cons_zero, List.set_cons_succ])
                      clear hK K
                      try clear ww0
                      refine runT rfl (fun K hK => ?_)
                      go_simp
                      go_at_call 36
                      refine (quiet_below (puslot_at ((j * sn : Nat) : Int) HSL.out (HPr.out.later (Hold.below HH.out)))).mono ?_
                      rintro r ww2 ⟨rfl, hb⟩
                      (try go_wp2_with fail)
                      replace HH := Lib.hid (Hold.later HH.out hb)
                      clear hb
                      refine hK.out _ _ (HAr.out.later (Hold.below HH.out) HCB.out) (fun _ => ?_)
                      (try simp only [Act.put, List.setIfInBounds_toArray, List.set_cons_zero, List.set_cons_succ])
                      clear hK K
                      try clear ww1
                      refine runT rfl (fun K hK => ?_)
                      go_simp
                      go_at_call 32
                      refine (pword_at t s so d _ (j * sn) _ rfl).mono ?_
                      rintro r ww3 ⟨rfl, hb⟩
                      (try go_wp2_with fail)
                      replace HH := Lib.hid (Hold.later HH.out hb)
                      clear hb
                      refine hK.out _ _ (HAr.out.later (Hold.below HH.out) HCB.out) (fun _ => ?_)
                      (try simp only [Act.put, List.setIfInBounds_toArray, List.set_cons_zero, List.set_cons_succ])
                      clear hK K
                      try clear ww2
                      refine runT rfl (fun K hK => ?_)
                      go_simp
                      go_at_call 44
                      refine (quiet_below (peek_in W.heap.size _ p c _ _ _ (j * sn) P (HMr.out.later (Hold.below HH.out)) HGW.out)).mono ?_
                      rintro r ww4 ⟨rfl, hb⟩
                      (try go_wp2_with fail)
                      replace HH := Lib.hid (Hold.later HH.out hb)
                      clear hb
                      refine hK.out _ _ (HAr.out.later (Hold.below HH.out) HCB.out) (fun _ => ?_)
                      (try simp only [Act.put, List.setIfInBounds_toArray, List.set_cons_zero, List.set_cons_succ])
                      clear hK K
                      try clear ww3
                      refine runT rfl (fun K hK => ?_)
                      go_simp
                      go_at_call 45
                      refine (unpack_at P 1 1 g' lo hi _ HPP.out).mono ?_
                      rintro r ww5 ⟨rfl, hb⟩
                      (try go_wp2_with fail)
                      replace HH := Lib.hid (Hold.later HH.out hb)
                      clear hb
                      refine hK.out _ _ (HAr.out.later (Hold.below HH.out) HCB.out) (fun _ => ?_)
                      (try simp only [Act.put, List.setIfInBounds_toArray, List.set_cons_zero, List.set_cons_succ])
                      clear hK K
                      try clear ww4
                      refine runT rfl (fun K hK => ?_)
                      have hbx : IsObj ww5 bx [i64 0, i64 0, i64 0, i64 0, i64 0] := (Hold.has HH.out 0 _ rfl).1
                      have q0 := hbx.at' 0 _ rfl
                      have q1 := hbx.at' 1 _ rfl
                      have q2 := hbx.at' 2 _ rfl
                      have q3 := hbx.at' 3 _ rfl
                      have q4 := hbx.at' 4 _ rfl
                      have f0 := hbx.fz 0
                      have f1 := hbx.fz 1
                      have f2 := hbx.fz 2
                      have f3 := hbx.fz 3
                      have f4 := hbx.fz 4
                      go_simp
                      clear q0 f0 q1 f1 q2 f2 q3 f3 q4 f4 hbx
                      replace HH := Lib.hid (Hold.setBox HH.out 0 rfl 0 (i64 1))
                      replace HH := Lib.hid (Hold.setBox HH.out 0 rfl 1 (i64 1))
                      replace HH := Lib.hid (Hold.setBox HH.out 0 rfl 2 (i64 g'))
                      replace HH := Lib.hid (Hold.setBox HH.out 0 rfl 3 (i64 lo))
                      replace HH := Lib.hid (Hold.setBox HH.out 0 rfl 4 (i64 hi))
                      replace HH : Hid (Hold wr (((((ww5.setCell ⟨bx, 0, none⟩ (i64 1)).setCell ⟨bx, 1, none⟩ (i64 1)).setCell ⟨bx, 2, none⟩ (i64 g')).setCell ⟨bx, 3, none⟩ (i64 lo)).setCell ⟨bx, 4, none⟩ (i64 hi)) ([] ++ [tObj wr.heap.size bx [i64 1, i64 1, i64 g', i64 lo, i64 hi]])) := HH.out
                      generalize (((((ww5.setCell ⟨bx, 0, none⟩ (i64 1)).setCell ⟨bx, 1, none⟩ (i64 1)).setCell ⟨bx, 2, none⟩ (i64 g')).setCell ⟨bx, 3, none⟩ (i64 lo)).setCell ⟨bx, 4, none⟩ (i64 hi)) = wz at HH ⊢
                      refine hK.out _ _ (HAr.out.later (Hold.below HH.out) HCB.out) (fun _ => ?_)
                      (try simp only [Act.put, List.setIfInBounds_toArray, List.set_cons_zero, List.set_cons_succ])
                      clear hK K
                      refine seqT_done ?_
                      go_wp2_with fail
                      go_meet
                      exact ⟨bx, rfl, HH⟩
                  case rest =>
                    obtain ⟨bx, rfl, HH⟩ := hcut
                    have HX1 : Hid (IsObj wc bx [.int .i64 1, .int .i64 1, .int .i64 g', .int .i64 lo, .int .i64 hi]) := (Hold.has HH.out 0 _ rfl).1
                    go_wp2_with fail
                    refine wp_region_seqS ((fun w' => w'.cell? ⟨bx, 0, none⟩ = some (.int .i64 1) ∧ w'.cell? ⟨bx, 1, none⟩ = some (.int .i64 1) ∧ w'.cell? ⟨bx, 3, none⟩ = some (.int .i64 lo) ∧ w'.cell? ⟨bx, 4, none⟩ = some (.int .i64 hi))) ((0, true) :: (1, true) :: (2, true) :: (3, true) :: (4, true) :: (5, true) :: (6, true) :: (7, false) :: (8, true) :: (9, true) :: (10, true) :: (11, true) :: (12, true) :: (13, true) :: (14, true) :: []) (by kernel_rfl) (by kernel_rfl) (by kernel_rfl) (by decide) (fun _ _ _ _ _ h => h) (⟨HX1.out.drew.at' 0 _ rfl, HX1.out.drew.at' 1 _ rfl, HX1.out.drew.at' 3 _ rfl, HX1.out.drew.at' 4 _ rfl⟩) ?_
                    replace HH := Lib.hid (Hold.drew HH.out)
                    replace HX1 := Lib.hid HX1.out.drew
                    repeat (first | (refine seq_take (v := ?_) rfl ?_ ?_ ?_; rotate_left 1; rfl; (focus (intro wS hSw; obtain ⟨d0, d2, d3, d4⟩ := hSw; go_simp; first | done | with_reducible rfl)); (try simp only [Act.put, List.setIfInBounds_toArray, List.set_cons_zero, List.set_cons_succ])) | (refine seq_skip rfl ?_ ?_; rfl; (try simp only [Act.put, List.setIfInBounds_toArray, List.set_cons_zero, List.set_cons_succ])))
                    refine seq_run rfl (fun K hK => ?_)
                    go_simp
                    go_at_call 37
                    refine (pustamp_at lo hi HP1.out HLO.out HHI.out (HPr.out.later (Hold.below HH.out))).mono ?_
                    rintro r w7 ⟨rfl, hb7⟩
                    (try go_wp2_with fail)
                    replace HH := Lib.hid (Hold.later HH.out hb7)
                    replace HX1 := Lib.hid (HX1.out.later hb7)
                    clear hb7
                    refine hK.out _ _ (⟨HX1.out.at' 0 _ rfl, HX1.out.at' 1 _ rfl, HX1.out.at' 3 _ rfl, HX1.out.at' 4 _ rfl⟩) (fun _ => ?_)
                    (try simp only [Act.put, List.setIfInBounds_toArray, List.set_cons_zero, List.set_cons_succ])
                    clear hK K
                    repeat (first | (refine seq_take (v := ?_) rfl ?_ ?_ ?_; rotate_left 1; rfl; (focus (intro wS hSw; obtain ⟨d0, d2, d3, d4⟩ := hSw; go_simp; first | done | with_reducible rfl)); (try simp only [Act.put, List.setIfInBounds_toArray, List.set_cons_zero, List.set_cons_succ])) | (refine seq_skip rfl ?_ ?_; rfl; (try simp only [Act.put, List.setIfInBounds_toArray, List.set_cons_zero, List.set_cons_succ])))
                    refine seq_done ?_
                    have HG2 := Lib.hid (HG.out.later (Hold.below HH.out))
                    clear hc
                    go_wp2_with fail
                    go_roundw
                    case rel => exact ⟨j + 1, by omega, by go_num, HG2⟩
                    case measure => first | omega | (simp [intOf]; done) | (simp [intOf]; omega)
                · have hge3 : ¬ (j : Int) < (e : Int) := by omega
                  have hbf := Lib.hid (below_step' HB.out HG.out.below HB.out.size)
                  go_wp2
                  go_ret
                  exact ⟨rfl, hbf.out⟩

end Go.Proofs.Ytoogdfjlodchhaa
