/-
  CodeCuts answers true for all lists and places, and leaves all memory that was there as it was. No condition.
-/
import Derived.Test.YtpfjommkjkbonaaCodeHead
import Derived.Test.YtpfjommkjkbonaaCodeCut
import Derived.Test.YtpfjommkjkbonaaCodeRight
namespace Go.Proofs.Ytpfjommkjkbonaa
open Go.RowKit
set_option linter.unusedVariables false

set_option maxRecDepth 100000 in
set_option maxHeartbeats 8000000 in
theorem walk_CodeCuts (a0 : Option Addr) (len0 cap0 : Nat) (a1 : Int) (w : World) (w0 : IsRows w [.inl .i64, .inl .i64, .inl .i64, .inl .i64, .inr true, .inr true, .inl .u64, .inl .i64] a0 len0 cap0) (w1 : (Lit.int .i64 a1).wf = true) :
    Calls Try.prog 5 #[.slice a0 len0 cap0, .int .i64 a1] w fun e w' => e = .returned (.bool true) ∧ Below w.heap.size w w' := by
  clear w1
  obtain ⟨V, rfl, hV⟩ := rows_lms w0
  have HV := Lib.hid hV
  clear w0 hV
  rcases Nat.lt_or_ge 60 V.length with hbig | hs
  · have hbig' : (60 : Int) < (V.length : Int) := by omega
    go_enter Try.func5, Try.ntmps5
    go_wp2_with fail
    refine (head18_any _).mono ?_
    rintro e w1 ⟨rfl, hb1⟩
    go_wp2_with fail
    go_ret
    exact ⟨rfl, hb1⟩
  have hs' : ¬ (60 : Int) < (V.length : Int) := by omega
  go_enter Try.func5, Try.ntmps5
  go_wp2_with fail
  refine (head18_any _).mono ?_
  rintro e w1 ⟨rfl, hb1⟩
  have HB1 := Lib.hid hb1
  have HV1 := Lib.hid (HV.out.later hb1)
  clear hb1 HV
  go_wp2_with fail
  refine (confl_at 1 1 1 1 _).mono ?_
  rintro r w2 ⟨hr, hb2⟩
  rw [src_small (by decide) (by decide)] at hr
  obtain rfl : r = .returned (cf 2 2 1 1) := hr
  have HB2 := Lib.hid (below_step HB1.out hb2)
  have HV2 := Lib.hid (HV1.out.later hb2)
  clear hb2 HB1 HV1
  have hC0 := below_new (Below.refl w2.heap.size w2) (.cells #[.int .i64 2, .int .i64 2, .int .i64 1, .int .i64 1] 24)
  have HH1 := (Hold.nil hC0).more (A := tObj w2.heap.size (w2.alloc (.cells #[.int .i64 2, .int .i64 2, .int .i64 1, .int .i64 1] 24)).heap.size [i64 2, i64 2, i64 1, i64 1, .slice none 0 0]) (below_new (Below.refl _ _) (.cells #[.int .i64 2, .int .i64 2, .int .i64 1, .int .i64 1, .slice none 0 0] 29)) (tObj_ok _ _ _) ⟨IsObj.made _ [i64 2, i64 2, i64 1, i64 1, .slice none 0 0] 29, hC0.size⟩ (fun q hq => by cases hq; exact Nat.le_refl _)
  have HH2 := HH1.more (A := tRow w2.heap.size 40 7 (.slice none 0 0) 0 []) (Below.refl _ _) (tRow_ok _ _ _ _ _ _) (World.ownsRow_nil _ _ _ _) (fun q hq => by cases hq)
  have HH3 := HH2.more (A := tRow w2.heap.size 3 1 (.slice (some ⟨((w2.alloc (.cells #[.int .i64 2, .int .i64 2, .int .i64 1, .int .i64 1] 24)).alloc (.cells #[.int .i64 2, .int .i64 2, .int .i64 1, .int .i64 1, .slice none 0 0] 29)).heap.size, 0, none⟩) 0 0) 0 []) (below_new (Below.refl _ _) (.cells #[] 3)) (tRow_ok _ _ _ _ _ _) (mki0 rfl HH2.size) (fun q hq => by cases hq; exact Nat.le_refl _)
  simp only [World.size_alloc] at HH3
  have HH := Lib.hid HH3
  clear HH1 HH2 HH3 hC0
  generalize hsb : w2.heap.size + 1 = sb at HH
  go_wp2_with fail
  clear hsb
  go_loopw [7, 8, 33] (fun sv zv iv wr => ∃ (i : Nat) (A1 : Option Addr) (cp1 : Nat) (A2 : Option Addr) (cp2 : Nat), i ≤ V.length ∧ sv = .slice A2 i cp2 ∧ zv = .int .i64 (stAt (mkL V) i : Nat) ∧ iv = .int .i64 i ∧ Hid (Hold w2 wr [tObj w2.heap.size sb [i64 2, i64 2, i64 1, i64 1, .slice A1 i cp1], tRow w2.heap.size 40 7 (.slice A1 i cp1) i (flatM (mkL (V.take i))), tRow w2.heap.size 3 1 (.slice A2 i cp2) i (stL (mkL V) i)]) ∧ Hid (∀ m ∈ mkL (V.take i), m.Right)) (fun _ _ iv _ => V.length - (RowKit.intOf iv).toNat)
  case atStart => exact ⟨0, none, 0, _, _, Nat.zero_le _, rfl, rfl, rfl, HH, Lib.hid (fun m hm => by cases hm)⟩
  case round =>
    clear HH
    obtain ⟨i, A1, cp1, A2, cp2, hi, rfl, rfl, rfl, HH, HG⟩ := hrel
    have hzb : stAt (mkL V) i ≤ 700 := by
      unfold stAt
      have h1 := encs_len ((mkL V).take i)
      have h2 := List.length_take_le i (mkL V)
      omega
    rcases Nat.lt_or_ge i V.length with hil | hil
    · have hil' : (i : Int) < (V.length : Int) := by omega
      obtain ⟨v, hv⟩ : ∃ v, V[i]? = some v := ⟨_, List.getElem?_eq_getElem hil⟩
      obtain ⟨b, off, rfl, hat⟩ := HV2.out.at' i v hv
      have HTK := Lib.hid (mkL_take hv)
      have HMF := Lib.hid (LM.make_fit (HV2.out.fit v (List.mem_of_getElem? hv)))
      have HMI : Hid ((mkL V)[i]? = some v.make) := Lib.hid (by unfold mkL; rw [List.getElem?_map, hv]; rfl)
      obtain ⟨e0, e1, e2, e3, e4, e5, e6, e7⟩ := hat.later (HH.out.below)
      have hcap := HV2.out.cap
      clear hat hv
      have HHa := Lib.hid (HH.out.later (below_new (Below.refl _ _) (v.obj 33)))
      go_wp2_with fail
      refine (make18_any v _).mono ?_
      rintro r w3 ⟨rfl, hb3⟩
      have HHb := Lib.hid (HHa.out.later hb3)
      have HHc := Lib.hid (HHb.out.more (A := tObj w2.heap.size w3.heap.size v.make.list) (below_new (Below.refl _ _) (v.make.obj 40)) (tObj_ok _ _ _) ⟨IsObj.made w3 v.make.list 40, HHb.out.size⟩ (fun q hq => by cases hq; exact Nat.le_refl _))
      clear hb3 HHa HH e0 e1 e2 e3 e4 e5 e6 e7
      generalize v.make = m at HTK HMF HMI HHc ⊢
      have hmb := (HHc.out.has 3 _ rfl : IsObj (w3.alloc (m.obj 40)) w3.heap.size m.list ∧ _).1
      have c0 := hmb.at' 0 _ rfl
      have c1 := hmb.at' 1 _ rfl
      have c2 := hmb.at' 2 _ rfl
      have c3 := hmb.at' 3 _ rfl
      have c4 := hmb.at' 4 _ rfl
      have c5 := hmb.at' 5 _ rfl
      have c6 := hmb.at' 6 _ rfl
      clear hmb
      go_wp2_with fail
      refine (right18_any m _).mono ?_
      rintro r w4 ⟨rfl, hb4⟩
      have HHd := Lib.hid (HHc.out.later hb4)
      clear hb4 HHc c0 c1 c2 c3 c4 c5 c6
      generalize hmbb : w3.heap.size = mb at HHd ⊢
      clear hmbb
      by_cases hmr : m.Right
      case neg =>
        rw [decide_eq_false hmr]
        clear hmr
        have HZ := Lib.hid (below_step HB2.out HHd.out.below)
        go_wp2_with fail
        go_ret
        exact ⟨rfl, HZ.out⟩
      case pos =>
        have HMR := Lib.hid hmr
        rw [decide_eq_true hmr]
        clear hmr
        have hmb := (HHd.out.has 3 _ rfl : IsObj w4 mb m.list ∧ _).1
        have hsc := (HHd.out.has 0 _ rfl : IsObj w4 sb [i64 2, i64 2, i64 1, i64 1, .slice A1 i cp1] ∧ _).1
        have c0 := hmb.at' 0 _ rfl
        have c1 := hmb.at' 1 _ rfl
        have c2 := hmb.at' 2 _ rfl
        have c3 := hmb.at' 3 _ rfl
        have c4 := hmb.at' 4 _ rfl
        have c5 := hmb.at' 5 _ rfl
        have c6 := hmb.at' 6 _ rfl
        have s4 := hsc.at' 4 _ rfl
        clear hmb hsc
        go_wp2_with (at_builtin; first
          | (go_loud (refine list_append_grew rfl _ _ 27 rfl w2.heap.size 40 _ 7 56 elem_cm (.slice A1 i cp1) i (flatM (mkL (V.take i))) rfl ((HHd.out.later (below_new (Below.refl _ _) (m.obj 40))).has 1 _ rfl) (some ⟨_, 0, none⟩) 1 1 m.list rfl (src7_at _ _ m (by simp)) (by unfold maxLen; omega) (by omega) (HHd.out.later (below_new (Below.refl _ _) (m.obj 40))).size ?_); intro v' w8 hG; go_loud (obtain ⟨A3, cp3, rfl⟩ := own_shape hG.own; have HH8 := Lib.hid ((HHd.out.later (below_new (Below.refl _ _) (m.obj 40))).append 1 rfl rfl hG); have hs8 := (HH8.out.has 0 _ rfl : IsObj w8 sb [i64 2, i64 2, i64 1, i64 1, .slice A1 i cp1] ∧ _).1; have z4 := hs8.at' 4 _ rfl; have y4 := hs8.fz 4; clear hs8 hG s4 c0 c1 c2 c3 c4 c5 c6 HHd))
          | (go_loud (have HH9 := (HH8.out.cdSet 0 rfl 4 (.slice A3 (i + 1) cp3)).later (below_new (Below.refl _ _) (.cells #[.int .i64 (stAt (mkL V) i : Nat)] 3))); go_loud (refine list_append_grew rfl _ _ 53 rfl w2.heap.size 3 _ 1 8 elem_i64 (.slice A2 i cp2) i (stL (mkL V) i) rfl (HH9.has 2 _ rfl) (some ⟨_, 0, none⟩) 1 1 [i64 (stAt (mkL V) i : Nat)] rfl (srci_at' _ _ _ (by simp)) (by unfold maxLen; omega) (by omega) HH9.size ?_); intro v'' w9 hG; go_loud (obtain ⟨A4, cp4, rfl⟩ := own_shape hG.own; have HH10 := Lib.hid (HH9.append 2 rfl rfl hG); have hm10 := (HH10.out.has 3 _ rfl : IsObj w9 mb m.list ∧ _).1; have c0 := hm10.at' 0 _ rfl; have c1 := hm10.at' 1 _ rfl; have c2 := hm10.at' 2 _ rfl; have c3 := hm10.at' 3 _ rfl; have c4 := hm10.at' 4 _ rfl; have c5 := hm10.at' 5 _ rfl; have c6 := hm10.at' 6 _ rfl; clear hm10 hG HH9 HH8 z4 y4)))
        refine (bytes18_any m _ HMF.out).mono ?_
        rintro r w13 ⟨vb, lb, rfl, hb13, hob, hlb, hme⟩
        obtain ⟨Ab, cpb, rfl⟩ := own_shape hob
        have hle : lb = m.enc := hme HMR.out
        have HSU : Hid (stAt (mkL V) (i + 1) = stAt (mkL V) i + lb.length) := Lib.hid (by rw [hle]; exact stAt_succ HMI.out)
        have HH11 : Hid (Hold w2 w13 [tObj w2.heap.size sb [i64 2, i64 2, i64 1, i64 1, .slice A3 (i + 1) cp3], tRow w2.heap.size 40 7 (.slice A3 (i + 1) cp3) (i + 1) (flatM (mkL (V.take (i + 1)))), tRow w2.heap.size 3 1 (.slice A4 (i + 1) cp4) (i + 1) (stL (mkL V) (i + 1))]) := Lib.hid (by
          have h := (HH10.out.later hb13).less (m := [_]) (l := [_, _, _])
          rw [HTK.out, flatM_append, show flatM [m] = m.list by rw [flatM, flatM, List.append_nil], ← stL_snoc (mkL V) (mkL V) i (fun _ _ => rfl) _ rfl]
          exact h)
        clear hob hme hle hb13 HH10 c0 c1 c2 c3 c4 c5 c6
        go_wp2_with fail
        go_roundw
        case rel =>
          exact ⟨i + 1, A3, cp3, A4, cp4, by omega, rfl, by rw [HSU.out]; go_num, by go_num, HH11, Lib.hid (by
            rw [HTK.out]
            intro x hx
            rcases List.mem_append.1 hx with hx | hx
            · exact HG.out x hx
            · rw [List.mem_singleton.1 hx]; exact HMR.out)⟩
        case measure => first | omega | (simp [RowKit.intOf]; done) | (simp [RowKit.intOf]; omega)
    · obtain rfl : i = V.length := by omega
      have hnn : ¬ (V.length : Int) < (V.length : Int) := by omega
      have hH := HH.out
      have hG := HG.out
      rw [List.take_length] at hH hG
      have HH2 := Lib.hid hH
      have HG2 := Lib.hid hG
      have HFT := Lib.hid (mkL_fit HV2.out.fit)
      have hE := encode_any 2 2 1 1 A1 cp1 (mkL V) wr (IsAt.own (HH2.out.has 1 _ rfl)) HFT.out (by rw [mkL_len]; omega)
      rw [mkL_len] at hE
      have HE := Lib.hid hE
      have hsb := (HH2.out.has 0 _ rfl : IsObj wr sb [i64 2, i64 2, i64 1, i64 1, .slice A1 V.length cp1] ∧ _).1
      have s0 := hsb.at' 0 _ rfl
      have s1 := hsb.at' 1 _ rfl
      have s2 := hsb.at' 2 _ rfl
      have s3 := hsb.at' 3 _ rfl
      have s4 := hsb.at' 4 _ rfl
      clear hsb hE HH HG hH hG hi hil
      go_wp2_with fail
      refine HE.out.mono ?_
      rintro r w5 ⟨vE, eE, rfl, hb5, hEi⟩
      have HH5 := Lib.hid (HH2.out.later hb5)
      have HB5 := Lib.hid (below_step HB2.out HH5.out.below)
      have hVl : (mkL V).length ≤ 65536 := by rw [mkL_len]; omega
      obtain ⟨rfl, ho⟩ := hEi.yes (by decide) hVl HG2.out
      have HGD := Lib.hid (show ∀ m ∈ mkL V, m.Good from fun m h => ⟨HG2.out m h, HFT.out m h⟩)
      have HBY := Lib.hid (byt_script (t := 2) (s := 2) (so := 1) (d := 1) (by decide) HG2.out)
      obtain ⟨Ab, cpb, rfl⟩ := own_shape ho
      have HO := Lib.hid (IsAt.own ho)
      have hcb := own_cap8 ho
      have hln : ([2, 2, 1, 1] ++ encs (mkL V)).length = stAt (mkL V) V.length := by
        unfold stAt
        rw [← mkL_len V, List.take_length, List.length_append]
        rfl
      rw [hln] at hcb ⊢
      have HLN := Lib.hid hln
      clear hb5 s0 s1 s2 s3 s4 HH2 HE hEi ho hln hnn
      obtain ⟨q, hq⟩ : ∃ q, stAt (mkL V) V.length = q + 3 := ⟨stAt (mkL V) V.length - 3, by unfold stAt; omega⟩
      have HQ := Lib.hid hq
      rw [hq] at hzb hcb ⊢
      have hq1 : 1 ≤ q := by have := HQ.out; unfold stAt at this; omega
      clear hq
      obtain ⟨u, hu⟩ : ∃ u : Nat, bits .and .i64 a1 65535 = (u : Int) := ⟨(a1 % 65536).toNat, by rw [show (65535 : Int) = ((65535 : Nat) : Int) from rfl, and_i64 a1 65535 16 rfl (by decide)]; omega⟩
      have hq2 : wrap64 (((q + 3 : Nat) : Int) - 3) = (q : Int) := by unfold wrap64; omega
      have hq3 : ¬ (q : Int) = 0 := by omega
      have hq4 : ((u : Int)).tmod (q : Int) = ((u % q : Nat) : Int) := by rw [Int.tmod_eq_emod_of_nonneg (by omega)]; rfl
      have hq5 : u % q < q := Nat.mod_lt _ (by omega)
      obtain ⟨c, hcn⟩ : ∃ c : Nat, 4 + u % q = c := ⟨_, rfl⟩
      have hc : (4 : Int) + (u : Int) % (q : Int) = (c : Int) := by omega
      have hc4 : 4 ≤ c := by omega
      have hcq : c ≤ q + 3 := by omega
      have hw0 : ((c : Int) == (q : Int) + 3) = whB (mkL V) c 0 := by
        unfold whB
        rw [mkL_len, HQ.out]
        by_cases e : c = q + 3
        · rw [decide_eq_true e, show (c : Int) = (q : Int) + 3 by omega]
          exact beq_self_eq_true _
        · rw [decide_eq_false e]
          exact beq_false_of_ne (by omega)
      obtain ⟨bw0, hbw0⟩ : ∃ bw, whB (mkL V) c 0 = bw := ⟨_, rfl⟩
      rw [hbw0] at hw0
      have HW0 := Lib.hid hbw0
      clear hcn hbw0 hq5
      go_wp2_with fail
      clear hu hq2 hq3 hq4 hc hw0
      have HIA := Lib.hid (IsAt.own (HH5.out.has 2 _ rfl))
      have hcs := own_cap8 (HH5.out.has 2 _ rfl : w5.ownsRow w2.heap.size 3 1 (.slice A2 V.length cp2) V.length (stL (mkL V) V.length))
      have HC4 := Lib.hid (And.intro hc4 (And.intro hcq (And.intro hcb hq1)))
      clear hc4 hcq hcb hq1
      go_loopw [15, 16, 82] (fun bv fv iv wx => ∃ (j : Nat) (bw : Bool) (fr : Nat), j ≤ V.length ∧ bv = .bool bw ∧ fv = .int .i64 fr ∧ iv = .int .i64 j ∧ wx = w5 ∧ Hid (whB (mkL V) c j = bw ∧ frN (mkL V) c j = fr)) (fun _ _ iv _ => V.length - (RowKit.intOf iv).toNat)
      case atStart => exact ⟨0, _, 0, Nat.zero_le _, rfl, rfl, rfl, rfl, Lib.hid ⟨HW0.out, rfl⟩⟩
      case round =>
        obtain ⟨j, bw, fr, hj, rfl, rfl, rfl, rfl, HJ⟩ := hrel
        rcases Nat.lt_or_ge j V.length with hjl | hjl
        · have hjl' : (j : Int) < (V.length : Int) := by omega
          obtain ⟨b, off, rfl, hbl, hat⟩ := HIA.out (by rw [stL_len]; omega)
          have hx := hat j _ (stL_at hjl)
          obtain ⟨xs, hxs⟩ : ∃ xs, stAt (mkL V) j = xs := ⟨_, rfl⟩
          rw [hxs] at hx
          have HXS := Lib.hid hxs
          clear hat hbl hxs
          have main : ∀ bx : Bool, (bx = true ↔ xs = c) → ∀ lx : Bool, (lx = true ↔ xs < c) → whB (mkL V) c (j + 1) = (bw || bx) ∧ frN (mkL V) c (j + 1) = if lx then xs else fr := fun bx h1 lx h2 => by
            unfold whB frN
            rw [HXS.out, HJ.out.1, HJ.out.2]
            constructor
            · congr 1
              cases bx
              · exact decide_eq_false (fun e => by cases h1.2 e)
              · exact decide_eq_true (h1.1 rfl)
            · cases lx
              · rw [if_neg (fun e => by cases h2.2 e)]
                rfl
              · rw [if_pos (h2.1 rfl)]
                rfl
          have MAIN := Lib.hid main
          clear main
          rcases Nat.lt_trichotomy xs c with hlt | heq | hgt
          · have e1 : ((xs : Int) == (c : Int)) = false := beq_false_of_ne (by omega)
            have e2 : (xs : Int) < (c : Int) := by omega
            have HM := Lib.hid (MAIN.out false ⟨fun h => (by cases h), fun h => by omega⟩ true ⟨fun _ => hlt, fun _ => rfl⟩)
            cases bw <;> (
              go_wp2_with fail
              go_roundw
              case rel => exact ⟨j + 1, _, xs, by omega, rfl, rfl, by go_num, trivial, HM⟩
              case measure => first | omega | (simp [RowKit.intOf]; done) | (simp [RowKit.intOf]; omega))
          · have e1 : ((xs : Int) == (c : Int)) = true := by rw [heq]; exact beq_self_eq_true _
            have e2 : ¬ (xs : Int) < (c : Int) := by omega
            have HM := Lib.hid (MAIN.out true ⟨fun _ => heq, fun _ => rfl⟩ false ⟨fun h => (by cases h), fun h => by omega⟩)
            have hn1 : ¬ xs < c := by omega
            clear heq
            cases bw <;> (
              go_wp2_with fail
              go_roundw
              case rel => exact ⟨j + 1, _, fr, by omega, rfl, rfl, by go_num, trivial, HM⟩
              case measure => first | omega | (simp [RowKit.intOf]; done) | (simp [RowKit.intOf]; omega))
          · have e1 : ((xs : Int) == (c : Int)) = false := beq_false_of_ne (by omega)
            have e2 : ¬ (xs : Int) < (c : Int) := by omega
            have HM := Lib.hid (MAIN.out false ⟨fun h => (by cases h), fun h => by omega⟩ false ⟨fun h => (by cases h), fun h => by omega⟩)
            have hn1 : ¬ xs < c := by omega
            cases bw <;> (
              go_wp2_with fail
              go_roundw
              case rel => exact ⟨j + 1, _, fr, by omega, rfl, rfl, by go_num, trivial, HM⟩
              case measure => first | omega | (simp [RowKit.intOf]; done) | (simp [RowKit.intOf]; omega))
        · obtain rfl : j = V.length := by omega
          have hnn : ¬ (V.length : Int) < (V.length : Int) := by omega
          obtain ⟨l, hl⟩ : ∃ l, [2, 2, 1, 1] ++ encs (mkL V) = l := ⟨_, rfl⟩
          have hlk : (l.take c).length = c := by
            rw [List.length_take, ← hl, HLN.out, HQ.out]
            have := HC4.out
            omega
          have hcc : c ≤ cpb := by have := HC4.out; omega
          have hcc' : (c : Int) ≤ (cpb : Int) := by omega
          have hO := HO.out
          have hBY := HBY.out
          have hd := decode_any Ab (l.take c) cpb wr (by rw [hl, ← List.take_append_drop c l, List.map_append] at hO; exact hO.left) (fun x hx => hBY x (by rw [hl]; exact List.mem_of_mem_take hx)) (by rw [hlk]; exact hcc) (by rw [hlk]; have := HC4.out; omega)
          rw [hlk] at hd
          have HD := Lib.hid hd
          have HL := Lib.hid (And.intro hl hlk)
          clear hl hlk hO hBY hd hj hjl
          go_wp2_with fail
          refine HD.out.mono ?_
          rintro r w7 ⟨vD, nD, eD, rfl, hb7, hDp⟩
          have HB7 := Lib.hid (below_step HB5.out hb7)
          clear hb7 HD
          cases bw with
          | true =>
            obtain ⟨k, hk, hck⟩ := whB_yes (by rw [mkL_len]; exact Nat.le_refl _) HJ.out.1
            have htk : l.take c = 2 :: 2 :: 1 :: 1 :: encs ((mkL V).take k) := by
              rw [← HL.out.1, hck]
              exact take_st hk
            obtain ⟨rfl, hn, A9, cp9, rfl, _⟩ := hDp.yes htk (by decide) (fun m hm => HGD.out m (List.mem_of_mem_take hm)) (by rw [List.length_take]; omega)
            rw [HL.out.2] at hn
            subst hn
            clear hDp htk hck hk hcc hcc'
            go_wp2_with fail
            go_ret
            exact ⟨rfl, below_new HB7.out _⟩
          | false =>
            obtain ⟨h1, h2⟩ := whB_no HJ.out.1
            obtain ⟨k, m, k1, k2, k3, k4⟩ := cut_in (ms := mkL V) (c := c) HC4.out.1 V.length (by rw [mkL_len]; exact Nat.le_refl _) h2 (by
              rw [mkL_len] at h1
              have := HC4.out.2.1
              have := HQ.out
              omega)
            obtain ⟨r1, r2, g1, g2, g3, g4⟩ := take_in (t := 2) (s := 2) (so := 1) (d := 1) k2 k3 k4
            rw [HL.out.1] at g4
            have hfr := frN_is k2 k3 k4 V.length k1 (by rw [mkL_len]; exact Nat.le_refl _)
            rw [HJ.out.2] at hfr
            obtain ⟨rfl, hn, rfl⟩ := hDp.part g4 (by decide) (fun m hm => HGD.out m (List.mem_of_mem_take hm)) (HGD.out m (List.mem_of_getElem? k2)) g1 g2 g3 (by rw [List.length_take, mkL_len]; omega)
            have hn2 : nD = (fr : Int) := by
              rw [hn, hfr]
              unfold stAt
              omega
            subst hn2
            clear hDp h1 h2 k1 k2 k3 k4 g1 g2 g3 g4 hfr hn hcc hcc'
            go_wp2_with fail
            go_ret
            exact ⟨rfl, below_new HB7.out _⟩
end Go.Proofs.Ytpfjommkjkbonaa
