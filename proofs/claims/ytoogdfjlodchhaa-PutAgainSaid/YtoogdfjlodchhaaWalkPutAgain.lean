/-
  PutAgain answers true for all numbers, and leaves all memory that was there as it was. No condition.
-/
import Derived.Test.YtoogdfjlodchhaaPutLaw
import Derived.Test.YtoogdfjlodchhaaPutAgainPure
import Derived.Test.YtoogdfjlodchhaaWalkPutTurn
import Derived.Deep.DeepCutAuto
namespace Go.Proofs.Ytoogdfjlodchhaa
open Go.RowKit
set_option linter.unusedVariables false

theorem lay212 : Lay 2 1 ((2 : Nat) : Int) := ⟨rfl, by omega, by omega, by omega, by omega, by omega, by omega, by omega⟩
theorem and_31 (a : Int) : bits .and .i64 a 31 = a % 32 := by rw [show (31 : Int) = ((31 : Nat) : Int) from rfl, and_i64 a 31 5 rfl (by decide)]; rfl

set_option maxRecDepth 100000 in
set_option maxHeartbeats 8000000 in
theorem walk_PutAgain (a0 : Int) (a1 : Int) (a2 : Int) (w : World) (w0 : (Lit.int .i64 a0).wf = true) (w1 : (Lit.int .i64 a1).wf = true) (w2 : (Lit.int .u64 a2).wf = true) :
    Calls Try.prog 8 #[.int .i64 a0, .int .i64 a1, .int .u64 a2] w fun e w' => e = .returned (.bool true) ∧ Below w.heap.size w w' := by
  obtain ⟨z0, z1⟩ := bounds_u64 w2
  clear w0 w1 w2
  obtain ⟨so, hso, o0, o4⟩ : ∃ u, wrap64 ((IntKind.u64.wrap a0).tmod 5) = u ∧ 0 ≤ u ∧ u ≤ 4 := ⟨_, rfl, (src5 a0).1, (src5 a0).2⟩
  have hso2 : IntKind.i64.wrap ((IntKind.u64.wrap a0).tmod 5) = so := by rw [← hso, Int.tmod_eq_emod_of_nonneg (by rw [IntKind.wrap_u64]; omega)]; rw [IntWalk.i64_in _ (by omega)]; unfold wrap64; omega
  obtain ⟨n, hn, n31⟩ : ∃ n : Nat, bits .and .i64 a1 31 = (n : Int) ∧ n ≤ 31 := ⟨(a1 % 32).toNat, by rw [and_31]; omega, by omega⟩
  go_enter Try.func8, Try.ntmps8
  go_wp2_with fail
  refine (head10_any _).mono ?_
  rintro e w1 ⟨rfl, hb1⟩
  have hA := AtC.made w1 2 1 so 0
  have hB0 : Below w.heap.size w (w1.alloc (.cells #[.int .i64 2, .int .i64 1, .int .i64 so, .int .i64 0] 29)) := below_step hb1 (below_new (Below.refl _ _) _)
  have hs0 : w1.heap.size < (w1.alloc (.cells #[.int .i64 2, .int .i64 1, .int .i64 so, .int .i64 0] 29)).heap.size := by simp
  have HA := Lib.hid hA
  have HB := Lib.hid hB0
  have Hs := Lib.hid hs0
  clear hA hB0 hs0 hb1
  go_wp2_with fail
  clear hso hso2 hn
  generalize w1.alloc (.cells #[.int .i64 2, .int .i64 1, .int .i64 so, .int .i64 0] 29) = W at HA HB Hs ⊢
  generalize w1.heap.size = cb at HA Hs ⊢
  clear w1
  refine (ccells_any 2 1 so 0 2 _ lay212).mono ?_
  rintro r w1 ⟨rfl, hb1⟩
  go_wp2_with fail
  refine (new_nat W.heap.size 8 8 _ hb1.size (by decide) (.inl rfl)).mono ?_
  rintro r w2 ⟨p, c, rfl, hM2, hb2, hp, hc⟩
  have HH := Lib.hid (Hold.cells hb1 hM2 hb2 hp hc)
  clear hM2 hb2 hp hc hb1
  obtain ⟨Q, q0, hq1, hQ, hQ1, hQ2, hQ3, hQ4⟩ := pmost_le (t := 2) (s := 1) (so := so) (d := 0) (by decide) (by decide) (by decide) (by decide) (by decide) (by decide)
  have HPM := Lib.hid (fun W' => pmost_any 2 1 so 0 (by decide) (by decide) (by decide) (by decide) (by decide) (by decide) o0 o4 Q hQ W')
  have HQ := Lib.hid hQ
  have HF0 : Hid (Free1 (List.replicate 8 0) ((0 : Nat) : Int)) := Free1.start
  have HN0 : Hid (∀ j : Nat, 6 ≤ j → 0 ≤ (List.replicate 8 (0 : Int)).getD j 0 ∧ (List.replicate 8 (0 : Int)).getD j 0 ≤ ((0 : Nat) : Int)) := fun j _ => by rw [zeros]; exact ⟨Int.le_refl _, Int.le_refl _⟩
  clear hQ hq1 hQ3
  go_wp2_with fail
  go_loopw [9, 10] (fun nw i wr => ∃ (e now : Nat) (v : Value) (C : List Int) (L : List Ev), e ≤ n ∧ now ≤ Q * e ∧ nw = .int .i64 now ∧ i = .int .i64 ((e + 1 : Nat) : Int) ∧ Hid (Hold W wr [tMem W.heap.size p c v C L]) ∧ Hid (Free1 C e) ∧ Hid (∀ j : Nat, 6 ≤ j → 0 ≤ C.getD j 0 ∧ C.getD j 0 ≤ (now : Int)) ∧ Hid (L.length ≤ 100 * e)) (fun _ i _ => 100 - (intOf i).toNat)
  case atStart => exact ⟨0, 0, _, _, _, by omega, by omega, rfl, rfl, HH, HF0, HN0, Nat.zero_le _⟩
  case round =>
    clear HH HF0 HN0
    obtain ⟨e, now, v, C, L, he, hnow, rfl, rfl, HH, HF, HN, HL⟩ := hrel
    have hnow2 : now ≤ 900 := by have := Nat.mul_le_mul (show Q ≤ 27 by omega) (show e ≤ 31 by omega); omega
    rcases Nat.lt_or_ge e n with hlt | hge
    · obtain ⟨V, hV, V0, V1⟩ : ∃ V, IntKind.u64.wrap (a2 + ((e + 1 : Nat) : Int)) = V ∧ 0 ≤ V ∧ V ≤ 18446744073709551615 := ⟨_, rfl, by rw [IntKind.wrap_u64]; omega, by rw [IntKind.wrap_u64]; omega⟩
      have hwe : IntKind.u64.wrap ((e + 1 : Nat) : Int) = ((e + 1 : Nat) : Int) := by rw [IntKind.wrap_u64]; omega
      have hV2 : IntKind.u64.wrap (a2 + ((e : Int) + 1)) = V := hV
      have hwe2 : IntKind.u64.wrap ((e : Int) + 1) = (e : Int) + 1 := hwe
      have hen : e + 1 ≤ n := by omega
      obtain ⟨q0, q1, q2, q3⟩ := HA.out.later HH.out.below Hs.out
      go_wp2_with fail
      refine (punew_any _ 2 1 2 1 so 0 1 0 V lay212 (by decide) (by decide) rfl (by decide) (by decide)).mono ?_
      rintro r w3 ⟨b, b1, b2, rfl, hS3, hb3, hbb⟩
      have HH1 : Hid (PuHold W w3 p c v C L b b1 b2 (pu0 2 1 so 0 1 0 V 1) []) := PuHold.begun HH.out hb3 hS3 hbb
      have hok : (pu0 2 1 so 0 1 0 V 1).Ok 2 1 6 4 C := pu0_ok lay212 rfl rfl HF.out.len (by decide) (by decide) rfl (by decide) (by decide) o0 o4 (by decide) (by decide) (by decide) (by decide) V0 V1
      have HS0 : Hid (Solo2 (pu0 2 1 so 0 1 0 V 1) C C 2 1 6 4 1 (now : Int) (now : Int) (-1)) := Solo2.start hok rfl HN.out (by omega) (Bel.begun 2 1 so 0 1 (numC_nn HH.out.mem0.nn) (by omega))
      have HR0 : Hid (((0 : Nat) : Int) + (pu0 2 1 so 0 1 0 V 1).rem 1 ≤ (Q : Int)) := by have := HQ.out; show _ ≤ _; rw [pu0_rem]; omega
      have HSM0 : Hid ((pu0 2 1 so 0 1 0 V 1).Same (pu0 2 1 so 0 1 0 V 1)) := Pu.Same.refl _
      have HLe := Lib.hid (Nat.le_refl L.length)
      have Hnw : Hid (now = now + 0) := rfl
      have HUS := Lib.hid (HF.out.usable (by omega))
      have HVV := Lib.hid hV
      clear hS3 hb3 hbb q0 q1 q2 q3 HH hok hV hV2 hwe hwe2
      go_wp2_with fail
      go_loopw [9, 12] (fun nw i wr => ∃ (q now2 : Nat) (v : Value) (C' : List Int) (L' : List Ev) (k : Pu), q ≤ Q ∧ nw = .int .i64 now2 ∧ i = .int .i64 q ∧ Hid (now2 = now + q) ∧ Hid (PuHold W wr p c v C' L' b b1 b2 k []) ∧ Hid (Solo2 k C' C 2 1 6 4 1 (now2 : Int) (now2 : Int) (-1)) ∧ Hid ((q : Int) + k.rem 1 ≤ (Q : Int)) ∧ Hid ((pu0 2 1 so 0 1 0 V 1).Same k) ∧ Hid (L'.length ≤ L.length + q)) (fun _ i _ => 100 - (intOf i).toNat)
      case atStart => exact ⟨0, now, _, _, _, _, by omega, rfl, rfl, Hnw, HH1, HS0, HR0, HSM0, HLe⟩
      case round =>
        clear HH1 HS0 HR0 HSM0 HLe Hnw
        obtain ⟨q, now2, v', C', L', k, hq, rfl, rfl, Hnw, HH, HS, HR, HSM, HLL⟩ := hrel
        obtain ⟨q0, q1, q2, q3⟩ := HA.out.later HH.out.below Hs.out
        go_wp2_with fail
        refine (HPM.out _).mono ?_
        rintro r w4 ⟨rfl, hb4⟩
        replace HH := Lib.hid (HH.out.later hb4)
        clear hb4 q0 q1 q2 q3
        have hn2 : now2 ≤ 930 := by have := Hnw.out; omega
        rcases Nat.lt_or_ge q Q with hqQ | hqQ
        · have hst := HH.out.call (now := (now2 : Int)) HS.out.ok (by omega) (by have := HLL.out; have := HL.out; omega)
          have HST := Lib.hid hst
          have hs2 : Solo2 _ _ C 2 1 6 4 1 ((now2 : Int) + 1) ((now2 : Int) + 1) (-1) := HS.out.step (by decide) (by rw [HSM.out.s]; exact (by decide : (1 : Int) < 1 + 1)) (by rw [HSM.out.t]; exact HUS.out) (fun i h1 h2 => by omega) (by omega) (by omega) (by omega) (by omega) HH.out.mem.nn
          have HS2 := Lib.hid hs2
          have hnx := HS.out.ok.next_ (now := (now2 : Int)) (by omega) HH.out.mem.nn
          have HR2 : Hid (((q + 1 : Nat) : Int) + (k.step 1 6 4 C' (now2 : Int)).rem 1 ≤ (Q : Int)) := by
            have h1 := HR.out
            show _ ≤ _
            by_cases hp : k.ph = 0
            · have := hnx.2 hp
              omega
            · have : (k.step 1 6 4 C' (now2 : Int)).rem 1 = 0 := by
                unfold Pu.rem
                rw [if_pos (by rw [show k.step 1 6 4 C' (now2 : Int) = k from if_pos hp]; exact hp)]
              omega
          have HSM2 := Lib.hid (HSM.out.trans (Pu.step_same k 1 6 4 C' (now2 : Int)))
          clear hst hs2 hnx
          go_wp2_with fail
          refine HST.out.mono ?_
          rintro r w5 ⟨rfl, v5, hH5⟩
          have HH5 := Lib.hid hH5
          have HE5 := Lib.hid (Pu.ev_le k 2 6 4 C' (now2 : Int))
          clear hH5 HST
          go_wp2_with fail
          go_roundw
          case rel => exact ⟨q + 1, now2 + 1, v5, _, _, _, by omega, by go_num, by go_num, by have := Hnw.out; show _ = _; omega, HH5, HS2, HR2, HSM2, by have := HLL.out; have := HE5.out; show _ ≤ _; rw [List.length_append]; omega⟩
          case measure => first | omega | (simp [intOf]; done) | (simp [intOf]; omega)
        · obtain rfl : q = Q := by omega
          have hp1 : k.ph = 1 := by
            refine HS.out.ph.resolve_left (fun h0 => ?_)
            have := Pu.rem_pos HS.out.ok h0
            have := HR.out
            omega
          obtain ⟨hc1, ht1⟩ := HS.out.fin hp1
          obtain ⟨g1, g2, g3⟩ := HF.out.next HS.out hp1 (by omega) (by omega)
          obtain ⟨r1, r2, r3, r4, r5, r6, r7⟩ := pack_parts HS.out.ok hc1 ht1
          have hst := HS.out.ok.st ht1
          have hke : k.e = 0 := HSM.out.e
          have hkv : k.value = V := HSM.out.value
          have hlen : C'.length = 8 := HS.out.len.trans HF.out.len
          have hval := HS.out.value (.inl hp1)
          have hslt : (if k.ph = 1 then k.cl.slot else -1) = 1 := by rw [if_pos hp1, HS.out.slot hc1]; rfl
          have hnum : ∀ j : Nat, 6 ≤ j → 0 ≤ C'.getD j 0 ∧ C'.getD j 0 ≤ (now2 : Int) := HS.out.date.num
          rw [g1] at r3
          rw [hke] at r2
          rw [hkv] at hval
          rw [hke] at g3
          generalize k.tk.lo = lo at r4 hst g3
          generalize k.tk.hi = hi at r5 hst g3
          generalize k.pack = P at g2 r1 r2 r3 r4 r5 r6 r7
          have HP1 := Lib.hid hp1
          have HSL := Lib.hid hslt
          have HGW : Hid (C'[1]? = some P) := by show _ = _; rw [getD_pu (by omega), g2]
          have HGV : Hid (C'[3]? = some V) := by show _ = _; rw [getD_pu (by omega)]; exact congrArg some hval
          have HPP : Hid (P % 4 = 1 ∧ P / 4 % 2 = 0 ∧ P / 8 % 8192 = (e : Int) + 1 ∧ P / 65536 % 16777216 = lo ∧ P / 1099511627776 = hi ∧ 0 ≤ P ∧ P ≤ 18446744073709551615) := ⟨r1, r2, r3, r4, r5, r6, r7⟩
          have HF2 := Lib.hid g3
          have HNU := Lib.hid hnum
          have HST := Lib.hid hst
          have HC8 := Lib.hid hlen
          clear hc1 ht1 g1 g2 g3 r1 r2 r3 r4 r5 r6 r7 hst hke hkv hlen hval hslt hnum hp1 HS HR HSM
          obtain ⟨q0, q1, q2, q3⟩ := HA.out.later HH.out.below Hs.out
          go_wp2_with fail
          refine (pword_at 2 1 so 0 1 1 _ rfl).mono ?_
          rintro r w5 ⟨rfl, hb5⟩
          replace HH := Lib.hid (HH.out.later hb5)
          clear hb5 q0 q1 q2 q3
          go_wp2_with fail
          refine (peek_in W.heap.size _ p c _ _ _ 1 P HH.out.mem HGW.out).mono ?_
          rintro r wr2 ⟨rfl, rfl⟩
          go_wp2_with fail
          refine (unpack_at P 1 0 ((e : Int) + 1) lo hi _ HPP.out).mono ?_
          rintro r w6 ⟨rfl, hb6⟩
          replace HH := Lib.hid (HH.out.later hb6)
          clear hb6
          have hbx := below_new (Below.refl w6.heap.size w6) (.cells #[.int .i64 1, .int .i64 0, .int .i64 ((e : Int) + 1), .int .i64 lo, .int .i64 hi] 54)
          have HHx := Lib.hid (HH.out.later hbx)
          have HX : Hid (IsObj (w6.alloc (.cells #[.int .i64 1, .int .i64 0, .int .i64 ((e : Int) + 1), .int .i64 lo, .int .i64 hi] 54)) w6.heap.size [.int .i64 1, .int .i64 0, .int .i64 ((e : Int) + 1), .int .i64 lo, .int .i64 hi]) := IsObj.made w6 [.int .i64 1, .int .i64 0, .int .i64 ((e : Int) + 1), .int .i64 lo, .int .i64 hi] 54
          have HFt : Hid (∀ q, Foot p c v' q → q ≠ w6.heap.size) := fun q hq e => by have := (HH.out.mem.foot q hq).2; omega
          clear hbx HH
          go_wp2_with fail
          generalize w6.alloc (.cells #[.int .i64 1, .int .i64 0, .int .i64 ((e : Int) + 1), .int .i64 lo, .int .i64 hi] 54) = wx at HHx HX ⊢
          generalize w6.heap.size = bx at HX HFt ⊢
          clear w6 w5 w4
          refine (puphase_at 1 HP1.out HHx.out.pu).mono ?_
          rintro r wr2 ⟨rfl, rfl⟩
          go_wp2_with fail
          refine (puslot_at 1 HSL.out HHx.out.pu).mono ?_
          rintro r wr2 ⟨rfl, rfl⟩
          have x0 := HX.out.at' 0 _ rfl
          have x2 := HX.out.at' 2 _ rfl
          obtain ⟨q0, q1, q2, q3⟩ := HA.out.later HHx.out.below Hs.out
          go_wp2_with fail
          refine (pvalue_at 2 1 so 0 2 1 3 _ lay212 (by decide) (by decide) rfl).mono ?_
          rintro r w5 ⟨rfl, hb5⟩
          replace HHx := Lib.hid (HHx.out.later hb5)
          replace HX := Lib.hid (HX.out.later hb5)
          clear hb5 q0 q1 q2 q3 x0 x2
          go_wp2_with fail
          refine (peek_in W.heap.size _ p c _ _ _ 3 V HHx.out.mem HGV.out).mono ?_
          rintro r wr2 ⟨rfl, rfl⟩
          obtain ⟨T, hT, hTc⟩ : ∃ T : Int, 2 + 4 * 0 + 8 * ((e : Int) + 1) + 65536 * lo + 1099511627776 * hi = T ∧ 0 ≤ T ∧ T ≤ 18446744073709551615 := ⟨_, rfl, by have := HST.out; omega⟩
          rw [hT] at HF2
          have HTT := Lib.hid hT
          clear hT
          have hV : IntKind.u64.wrap (a2 + ((e + 1 : Nat) : Int)) = V := HVV.out
          have hwe : IntKind.u64.wrap ((e + 1 : Nat) : Int) = ((e + 1 : Nat) : Int) := by rw [IntKind.wrap_u64]; omega
          have hV2 : IntKind.u64.wrap (a2 + ((e : Int) + 1)) = V := hV
          have hwe2 : IntKind.u64.wrap ((e : Int) + 1) = (e : Int) + 1 := hwe
          go_wp2_with fail
          refine wp_region_seqS ((fun w' => AtC w' cb 2 1 so 0 ∧ w'.cell? ⟨bx, 0, none⟩ = some (.int .i64 1) ∧ w'.cell? ⟨bx, 1, none⟩ = some (.int .i64 0) ∧ w'.cell? ⟨bx, 2, none⟩ = some (.int .i64 ((e : Int) + 1)) ∧ w'.cell? ⟨bx, 3, none⟩ = some (.int .i64 lo) ∧ w'.cell? ⟨bx, 4, none⟩ = some (.int .i64 hi))) ((0, true) :: (1, true) :: (3, true) :: (2, false) :: (4, false) :: (5, false) :: (6, false) :: []) (by kernel_rfl) (by kernel_rfl) (by kernel_rfl) (by decide) (fun _ _ _ _ _ h => h) (⟨HA.out.later HHx.out.drew.below Hs.out, HX.out.drew.at' 0 _ rfl, HX.out.drew.at' 1 _ rfl, HX.out.drew.at' 2 _ rfl, HX.out.drew.at' 3 _ rfl, HX.out.drew.at' 4 _ rfl⟩) ?_
          replace HHx := Lib.hid HHx.out.drew
          replace HX := Lib.hid HX.out.drew
          clear hV hV2 hwe hwe2
          repeat (first | (refine seq_take (v := ?_) rfl ?_ ?_ ?_; rotate_left 1; rfl; (focus (intro wS hSw; obtain ⟨⟨k0, k1, k2, k3⟩, d0, d1, d2, d3, d4⟩ := hSw; go_simp; first | done | with_reducible rfl)); (try simp only [Act.put, List.setIfInBounds_toArray, List.set_cons_zero, List.set_cons_succ])) | (refine seq_skip rfl ?_ ?_; rfl; (try simp only [Act.put, List.setIfInBounds_toArray, List.set_cons_zero, List.set_cons_succ])))
          refine seq_run rfl (fun K hK => ?_)
          go_simp
          go_at_call 32
          refine (pword_at 2 1 so 0 1 1 _ rfl).mono ?_
          rintro r w6 ⟨rfl, hb6⟩
          (try go_wp2_with fail)
          replace HHx := Lib.hid (HHx.out.later hb6)
          replace HX := Lib.hid (HX.out.later hb6)
          clear hb6
          refine hK.out _ _ (⟨HA.out.later HHx.out.below Hs.out, HX.out.at' 0 _ rfl, HX.out.at' 1 _ rfl, HX.out.at' 2 _ rfl, HX.out.at' 3 _ rfl, HX.out.at' 4 _ rfl⟩) (fun _ => ?_)
          (try simp only [Act.put, List.setIfInBounds_toArray, List.set_cons_zero, List.set_cons_succ])
          clear hK K
          repeat (first | (refine seq_take (v := ?_) rfl ?_ ?_ ?_; rotate_left 1; rfl; (focus (intro wS hSw; obtain ⟨⟨k0, k1, k2, k3⟩, d0, d1, d2, d3, d4⟩ := hSw; go_simp; first | done | with_reducible rfl)); (try simp only [Act.put, List.setIfInBounds_toArray, List.set_cons_zero, List.set_cons_succ])) | (refine seq_skip rfl ?_ ?_; rfl; (try simp only [Act.put, List.setIfInBounds_toArray, List.set_cons_zero, List.set_cons_succ])))
          refine seq_run rfl (fun K hK => ?_)
          go_simp
          go_at_call 51
          refine (taken_any 1 0 ((e : Int) + 1) lo hi _).mono ?_
          rintro r w7 ⟨rfl, hb7⟩
          (try go_wp2_with fail)
          replace HHx := Lib.hid (HHx.out.later hb7)
          replace HX := Lib.hid (HX.out.later hb7)
          clear hb7
          refine hK.out _ _ (⟨HA.out.later HHx.out.below Hs.out, HX.out.at' 0 _ rfl, HX.out.at' 1 _ rfl, HX.out.at' 2 _ rfl, HX.out.at' 3 _ rfl, HX.out.at' 4 _ rfl⟩) (fun _ => ?_)
          (try simp only [Act.put, List.setIfInBounds_toArray, List.set_cons_zero, List.set_cons_succ])
          clear hK K
          repeat (first | (refine seq_take (v := ?_) rfl ?_ ?_ ?_; rotate_left 1; rfl; (focus (intro wS hSw; obtain ⟨⟨k0, k1, k2, k3⟩, d0, d1, d2, d3, d4⟩ := hSw; go_simp; first | done | with_reducible rfl)); (try simp only [Act.put, List.setIfInBounds_toArray, List.set_cons_zero, List.set_cons_succ])) | (refine seq_skip rfl ?_ ?_; rfl; (try simp only [Act.put, List.setIfInBounds_toArray, List.set_cons_zero, List.set_cons_succ])))
          refine seq_run rfl (fun K hK => ?_)
          go_simp
          go_at_call 33
          refine (pack_at 2 0 ((e : Int) + 1) lo hi T _ (by have := HST.out; omega) HTT.out).mono ?_
          rintro r w8 ⟨rfl, hb8⟩
          (try go_wp2_with fail)
          replace HHx := Lib.hid (HHx.out.later hb8)
          replace HX := Lib.hid (HX.out.later hb8)
          clear hb8
          refine hK.out _ _ (⟨HA.out.later HHx.out.below Hs.out, HX.out.at' 0 _ rfl, HX.out.at' 1 _ rfl, HX.out.at' 2 _ rfl, HX.out.at' 3 _ rfl, HX.out.at' 4 _ rfl⟩) (fun _ => ?_)
          (try simp only [Act.put, List.setIfInBounds_toArray, List.set_cons_zero, List.set_cons_succ])
          clear hK K
          repeat (first | (refine seq_take (v := ?_) rfl ?_ ?_ ?_; rotate_left 1; rfl; (focus (intro wS hSw; obtain ⟨⟨k0, k1, k2, k3⟩, d0, d1, d2, d3, d4⟩ := hSw; go_simp; first | done | with_reducible rfl)); (try simp only [Act.put, List.setIfInBounds_toArray, List.set_cons_zero, List.set_cons_succ])) | (refine seq_skip rfl ?_ ?_; rfl; (try simp only [Act.put, List.setIfInBounds_toArray, List.set_cons_zero, List.set_cons_succ])))
          refine seq_run rfl (fun K hK => ?_)
          go_simp
          go_at_call 22
          refine (store_in W.heap.size _ p c _ _ _ (-1) 1 P T HHx.out.mem HGW.out HHx.out.size (by have := HLL.out; have := HL.out; omega) hTc.1 hTc.2).mono ?_
          rintro r w9 ⟨rfl, v9, hT9⟩
          (try go_wp2_with fail)
          replace HX := Lib.hid (HX.out.keep hT9.keep (fun hf => HFt.out _ hf rfl))
          have HH9 := Lib.hid (HHx.out.store hT9)
          clear hT9
          refine hK.out _ _ (⟨HA.out.later HH9.out.below Hs.out, HX.out.at' 0 _ rfl, HX.out.at' 1 _ rfl, HX.out.at' 2 _ rfl, HX.out.at' 3 _ rfl, HX.out.at' 4 _ rfl⟩) (fun _ => ?_)
          (try simp only [Act.put, List.setIfInBounds_toArray, List.set_cons_zero, List.set_cons_succ])
          clear hK K
          refine seq_done ?_
          clear hTc
          go_wp2_with fail
          go_roundw
          case rel => exact ⟨e + 1, now2, v9, _, _, by omega, by have := Hnw.out; rw [Nat.mul_add, Nat.mul_one]; omega, by go_num, by go_num, Lib.hid (Hold.less (l := [_]) (m := [_]) HH9.out), HF2, fun j hj => by rw [getD_set_ne2 _ (by omega)]; exact HNU.out j hj, by have := HLL.out; have := HL.out; show _ ≤ _; rw [List.length_append]; simp; omega⟩
          case measure => first | omega | (simp [intOf]; done) | (simp [intOf]; omega)
    · have hen : ¬ e + 1 ≤ n := by omega
      have hbf := Lib.hid (below_step' HB.out HH.out.below HB.out.size)
      go_wp2
      go_ret
      exact ⟨rfl, hbf.out⟩

end Go.Proofs.Ytoogdfjlodchhaa
