/-
  PlayCuts answers true for all numbers and lists of moves, and leaves all memory that was there as it was. No condition.
-/
import Derived.Test.YtpfjommkjkbonaaGreatQF10
import Derived.Test.YtpfjommkjkbonaaGreatQF11
import Derived.Test.YtpfjommkjkbonaaGreatQF2
namespace Go.Proofs.YtpfjommkjkbonaaGreat
open Go.RowKit
set_option linter.unusedVariables false

theorem vcells {w : World} {b : Nat} {v : LM} (h : IsObj w b v.list) : w.cell? ⟨b, 0, none⟩ = some (i64 v.kind) ∧ w.cell? ⟨b, 1, none⟩ = some (i64 v.who) ∧ w.cell? ⟨b, 2, none⟩ = some (i64 v.n) ∧ w.cell? ⟨b, 3, none⟩ = some (i64 v.start) ∧ w.cell? ⟨b, 4, none⟩ = some (.bool v.take) ∧ w.cell? ⟨b, 5, none⟩ = some (.bool v.right) ∧ w.cell? ⟨b, 6, none⟩ = some (u64 v.value) ∧ w.cell? ⟨b, 7, none⟩ = some (i64 v.odd) :=
  ⟨h.at' 0 _ rfl, h.at' 1 _ rfl, h.at' 2 _ rfl, h.at' 3 _ rfl, h.at' 4 _ rfl, h.at' 5 _ rfl, h.at' 6 _ rfl, h.at' 7 _ rfl⟩
theorem at_in (a : Int) (n : Nat) (hn : n ≤ 1000) : ∃ q : Nat, wrap64 ((IntKind.u64.wrap a).tmod ((n : Int) + 1)) = q ∧ q ≤ n := by
  have h0 : 0 ≤ IntKind.u64.wrap a := by rw [IntKind.wrap_u64]; omega
  have h1 := Int.emod_nonneg (IntKind.u64.wrap a) (show ((n : Int) + 1) ≠ 0 by omega)
  have h2 := Int.emod_lt_of_pos (IntKind.u64.wrap a) (show 0 < (n : Int) + 1 by omega)
  refine ⟨((IntKind.u64.wrap a) % ((n : Int) + 1)).toNat, ?_, by omega⟩
  rw [Int.tmod_eq_emod_of_nonneg h0]
  unfold wrap64
  omega
set_option maxRecDepth 100000 in
set_option maxHeartbeats 8000000 in
theorem walk_PlayCuts (a0 : Int) (a1 : Int) (a2 : Int) (a3 : Option Addr) (len3 cap3 : Nat) (a4 : Int) (w : World) (w0 : (Lit.int .i64 a0).wf = true) (w1 : (Lit.int .i64 a1).wf = true) (w2 : (Lit.int .i64 a2).wf = true) (w3 : IsRows w [.inl .i64, .inl .i64, .inl .i64, .inl .i64, .inr true, .inr true, .inl .u64, .inl .i64] a3 len3 cap3) (w4 : (Lit.int .i64 a4).wf = true) :
    Calls Tryz.prog 7 #[.int .i64 a0, .int .i64 a1, .int .i64 a2, .slice a3 len3 cap3, .int .i64 a4] w fun e w' => e = .returned (.bool true) ∧ Below w.heap.size w w' := by
  clear w0 w1 w2 w4
  obtain ⟨V, rfl, hV⟩ := zBU w3
  have HV := zIa hV
  clear w3 hV
  rcases Nat.lt_or_ge 200 V.length with hbig | hs4
  · have hbig' : (200 : Int) < (V.length : Int) := by omega
    go_enter Tryz.func7, Tryz.ntmps7
    go_wp2_with fail
    refine (zAh _).mono ?_
    rintro e w1 ⟨rfl, hb1⟩
    go_wp2_with fail
    go_ret
    exact ⟨rfl, hb1⟩
  have hs5 : ¬ (200 : Int) < (V.length : Int) := by omega
  have HCF := zIa (fun w => zBj a0 a1 a2 1 w)
  rw [show (1 : Int) % 4 = 1 from rfl] at HCF
  obtain ⟨T, hT⟩ : ∃ T : Nat, 1 + a0 % 4 = T := ⟨(1 + a0 % 4).toNat, by omega⟩
  obtain ⟨s, hs⟩ : ∃ s, 1 + a1 % 4 = s := ⟨_, rfl⟩
  obtain ⟨so, hso⟩ : ∃ so, wrap64 ((IntKind.u64.wrap a2).tmod 5) = so := ⟨_, rfl⟩
  have ho := src5 a2
  rw [hso] at ho
  rw [hT, hs, hso] at HCF
  obtain ⟨N, hN⟩ : ∃ N : Nat, (T : Int) * s = N := ⟨((T : Int) * s).toNat, by have := Int.mul_nonneg (by omega : (0 : Int) ≤ (T : Int)) (by omega : 0 ≤ s); omega⟩
  have HLAY : Hid (Lay T s N) := zIa (hN ▸ Lay.mk' (by omega) (by omega) (by omega) (by omega))
  have hT4 : T ≤ 4 := by omega
  have HSO := zIa ho
  clear hT hs hso hN ho
  go_enter Tryz.func7, Tryz.ntmps7
  go_wp2_with fail
  refine (zAh _).mono ?_
  rintro e w1 ⟨rfl, hb1⟩
  have HB1 := zIa hb1
  have HV1 := zIa (HV.out.later hb1)
  clear hb1 HV
  go_wp2_with fail
  refine (HCF.out _).mono ?_
  rintro r w2 ⟨rfl, hb2⟩
  have HH0 := ((Hold.nil (Below.refl w1.heap.size w1)).later hb2).more (A := tObj w1.heap.size w2.heap.size [i64 T, i64 s, i64 so, i64 1]) (zAA (Below.refl _ _) (.cells #[.int .i64 T, .int .i64 s, .int .i64 so, .int .i64 1] 24)) (zAM _ _ _) ⟨IsObj.made _ [i64 T, i64 s, i64 so, i64 1] 24, hb2.size⟩ (fun q hq => by cases hq; exact Nat.le_refl _)
  have HH1 := HH0.more (A := tObj w1.heap.size (w2.alloc (.cells #[.int .i64 T, .int .i64 s, .int .i64 so, .int .i64 1] 24)).heap.size [i64 T, i64 s, i64 so, i64 1, .slice none (0) 0]) (zAA (Below.refl _ _) (.cells #[.int .i64 T, .int .i64 s, .int .i64 so, .int .i64 1, .slice none (0) 0] 29)) (zAM _ _ _) ⟨IsObj.made _ [i64 T, i64 s, i64 so, i64 1, .slice none (0) 0] 29, HH0.size⟩ (fun q hq => by cases hq; exact Nat.le_refl _)
  have HH2 := HH1.more (A := tRow w1.heap.size 39 7 (.slice none 0 0) 0 []) (Below.refl _ _) (zAf _ _ _ _ _ _) (World.ownsRow_nil _ _ _ _) (fun q hq => by cases hq)
  simp only [World.size_alloc] at HH2
  have HV2 := zIa (HV1.out.later hb2)
  have HH := zIa HH2
  have HVF := zIa HV1.out.fit
  clear HH0 HH1 HH2 hb2 HCF
  go_wp2_with fail
  generalize hsb : w2.heap.size + 1 = sb at HH ⊢
  generalize hcb : w2.heap.size = cb at HH ⊢
  clear hsb hcb
  go_loopw [37] (fun iv wr => ∃ (i : Nat) (A1 : Option Addr) (cp1 : Nat), i ≤ V.length ∧ iv = .int .i64 i ∧ Hid (Hold w1 wr [tObj w1.heap.size cb [i64 T, i64 s, i64 so, i64 1], tObj w1.heap.size sb [i64 T, i64 s, i64 so, i64 1, .slice A1 (i) cp1], tRow w1.heap.size 39 7 (.slice A1 (i) cp1) (i) (flatM (mkL (V.take i)))])) (fun iv _ => V.length - (RowKit.intOf iv).toNat)
  case atStart => exact ⟨0, none, 0, Nat.zero_le _, rfl, HH⟩
  case round =>
    clear HH
    obtain ⟨i, A1, cp1, hi, rfl, HH⟩ := hrel
    rcases Nat.lt_or_ge i V.length with hil | hil
    · have hil' : (i : Int) < (V.length : Int) := by omega
      obtain ⟨v, hv⟩ : ∃ v, V[i]? = some v := ⟨_, List.getElem?_eq_getElem hil⟩
      obtain ⟨b, off, rfl, hat⟩ := HV1.out.at' i v hv
      have HTK := zIa (zCJ hv)
      obtain ⟨e0, e1, e2, e3, e4, e5, e6, e7⟩ := hat.later (HH.out.below)
      have hcap := HV1.out.cap
      obtain ⟨m, hm⟩ : ∃ m, v.make = m := ⟨_, rfl⟩
      have HMK := zIa (fun w => zA8 v w)
      rw [hm] at HMK HTK
      have HN := zIa (HH.out.more (A := tObj w1.heap.size wr.heap.size v.list) (zAA (Below.refl _ _) (v.obj 32)) (zAM _ _ _) ⟨IsObj.made wr v.list 32, HH.out.size⟩ (fun q hq => by cases hq; exact Nat.le_refl _))
      clear hat hv hm HH
      go_wp2_with fail
      clear e0 e1 e2 e3 e4 e5 e6 e7
      generalize wr.alloc (v.obj 32) = wv at HN ⊢
      generalize wr.heap.size = vb at HN ⊢
      replace HN := zIa HN.out.drew
      refine zAY (fun w' => w'.cell? ⟨vb, 0, none⟩ = some (i64 v.kind) ∧ w'.cell? ⟨vb, 1, none⟩ = some (i64 v.who) ∧ w'.cell? ⟨vb, 2, none⟩ = some (i64 v.n) ∧ w'.cell? ⟨vb, 3, none⟩ = some (i64 v.start) ∧ w'.cell? ⟨vb, 4, none⟩ = some (.bool v.take) ∧ w'.cell? ⟨vb, 5, none⟩ = some (.bool v.right) ∧ w'.cell? ⟨vb, 6, none⟩ = some (u64 v.value) ∧ w'.cell? ⟨vb, 7, none⟩ = some (i64 v.odd)) (.take 0 (.take 2 (.two 1 (.one 3 (.one 4 (.one 5 (.take 6 (.one 7 .nil))))) 3 (.two 1 (.one 4 (.one 5 (.take 6 (.one 7 .nil)))) 4 (.one 1 (.one 5 (.take 6 (.one 7 .nil)))))))) (by kernel_rfl) (by kernel_rfl) (by kernel_rfl) (by decide) (fun _ _ _ _ _ h => h) (vcells (HN.out.has 3 _ rfl : IsObj _ vb v.list ∧ _).1) ?_
      repeat (refine zAP (v := ?_) rfl ?_ ?_ ?_; rotate_left 1; rfl; (focus (intro wS hSw; obtain ⟨x0, x1, x2, x3, x4, x5, x6, x7⟩ := hSw; go_simp; first | done | with_reducible rfl)); (try simp only [Act.put, List.setIfInBounds_toArray, List.set_cons_zero, List.set_cons_succ]))
      refine ⟨?_, ?_⟩
      · refine runT rfl (fun K hK => ?_)
        have s4 := (HN.out.has 1 _ rfl : IsObj _ sb [i64 T, i64 s, i64 so, i64 1, .slice A1 (i) cp1] ∧ _).1.at' 4 _ rfl
        go_simp
        clear s4
        refine hK.out _ _ (vcells (HN.out.has 3 _ rfl : IsObj _ vb v.list ∧ _).1) (fun _ => ?_)
        (try simp only [Act.put, List.setIfInBounds_toArray, List.set_cons_zero, List.set_cons_succ])
        clear hK K
        refine runT rfl (fun K hK => ?_)
        go_simp
        go_at_call 12
        refine (HMK.out _).mono ?_
        rintro r w3 ⟨rfl, hb3⟩
        (try go_wp2_with fail)
        replace HN := zIa (HN.out.later hb3)
        clear hb3
        refine hK.out _ _ (vcells (HN.out.has 3 _ rfl : IsObj _ vb v.list ∧ _).1) (fun _ => ?_)
        (try simp only [Act.put, List.setIfInBounds_toArray, List.set_cons_zero, List.set_cons_succ])
        clear hK K
        refine runT rfl (fun K hK => ?_)
        go_simp
        replace HN := zIa (HN.out.later (zAA (Below.refl _ _) (m.obj 39)))
        refine hK.out _ _ (vcells (HN.out.has 3 _ rfl : IsObj _ vb v.list ∧ _).1) (fun _ => ?_)
        (try simp only [Act.put, List.setIfInBounds_toArray, List.set_cons_zero, List.set_cons_succ])
        clear hK K
        refine runT rfl (fun K hK => ?_)
        refine zAN rfl _ _ 27 rfl w1.heap.size 39 _ 7 56 zAV (.slice A1 (i) cp1) (i) (flatM (mkL (V.take i))) rfl (HN.out.has 2 _ rfl) (some ⟨_, 0, none⟩) 1 1 m.list rfl (zAW _ _ m (by simp)) (by unfold maxLen; omega) (by omega) HN.out.size ?_
        intro v' w8 hG
        obtain ⟨A3, cp3, rfl⟩ := zAK hG.own
        replace HN := zIa (HN.out.append 2 rfl rfl hG)
        clear hG
        refine hK.out _ _ (vcells (HN.out.has 3 _ rfl : IsObj _ vb v.list ∧ _).1) (fun _ => ?_)
        (try simp only [Act.put, List.setIfInBounds_toArray, List.set_cons_zero, List.set_cons_succ])
        clear hK K
        repeat (refine zAP (v := ?_) rfl ?_ ?_ ?_; rotate_left 1; rfl; (focus (intro wS hSw; obtain ⟨x0, x1, x2, x3, x4, x5, x6, x7⟩ := hSw; go_simp; first | done | with_reducible rfl)); (try simp only [Act.put, List.setIfInBounds_toArray, List.set_cons_zero, List.set_cons_succ]))
        refine runT rfl (fun K hK => ?_)
        have hs8 := (HN.out.has 1 _ rfl : IsObj _ sb [i64 T, i64 s, i64 so, i64 1, .slice A1 (i) cp1] ∧ _).1
        have z4 := hs8.at' 4 _ rfl
        have y4 := hs8.fz 4
        clear hs8
        go_simp
        replace HN := zIa (HN.out.cdSet 1 rfl 4 (.slice A3 (i + 1) cp3))
        clear z4 y4
        refine hK.out _ _ (vcells (HN.out.has 3 _ rfl : IsObj _ vb v.list ∧ _).1) (fun _ => ?_)
        (try simp only [Act.put, List.setIfInBounds_toArray, List.set_cons_zero, List.set_cons_succ])
        clear hK K
        refine zAO ?_
        have HH9 : Hid (Hold w1 _ [tObj w1.heap.size cb [i64 T, i64 s, i64 so, i64 1], tObj w1.heap.size sb [i64 T, i64 s, i64 so, i64 1, .slice A3 (i + 1) cp3], tRow w1.heap.size 39 7 (.slice A3 (i + 1) cp3) (i + 1) (flatM (mkL (V.take (i + 1))))]) := zIa (by
          have h := HN.out.less (m := [_]) (l := [_, _, _])
          rw [HTK.out, zAL, show flatM [m] = m.list by rw [flatM, flatM, List.append_nil]]
          exact h)
        clear HN
        go_wp2_with fail
        go_roundw
        case rel => exact ⟨i + 1, A3, cp3, by omega, by go_num, HH9⟩
        case measure => first | omega | (simp [RowKit.intOf]; done) | (simp [RowKit.intOf]; omega)
      · refine runT rfl (fun K hK => ?_)
        go_simp
        go_at_call 12
        refine (HMK.out _).mono ?_
        rintro r w3 ⟨rfl, hb3⟩
        (try go_wp2_with fail)
        replace HN := zIa (HN.out.later hb3)
        clear hb3
        refine hK.out _ _ (vcells (HN.out.has 3 _ rfl : IsObj _ vb v.list ∧ _).1) (fun _ => ?_)
        (try simp only [Act.put, List.setIfInBounds_toArray, List.set_cons_zero, List.set_cons_succ])
        clear hK K
        refine ⟨?_, ?_⟩
        · refine runT rfl (fun K hK => ?_)
          have s4 := (HN.out.has 1 _ rfl : IsObj _ sb [i64 T, i64 s, i64 so, i64 1, .slice A1 (i) cp1] ∧ _).1.at' 4 _ rfl
          go_simp
          clear s4
          refine hK.out _ _ (vcells (HN.out.has 3 _ rfl : IsObj _ vb v.list ∧ _).1) (fun _ => ?_)
          (try simp only [Act.put, List.setIfInBounds_toArray, List.set_cons_zero, List.set_cons_succ])
          clear hK K
          refine runT rfl (fun K hK => ?_)
          go_simp
          replace HN := zIa (HN.out.later (zAA (Below.refl _ _) (m.obj 39)))
          refine hK.out _ _ (vcells (HN.out.has 3 _ rfl : IsObj _ vb v.list ∧ _).1) (fun _ => ?_)
          (try simp only [Act.put, List.setIfInBounds_toArray, List.set_cons_zero, List.set_cons_succ])
          clear hK K
          refine runT rfl (fun K hK => ?_)
          refine zAN rfl _ _ 27 rfl w1.heap.size 39 _ 7 56 zAV (.slice A1 (i) cp1) (i) (flatM (mkL (V.take i))) rfl (HN.out.has 2 _ rfl) (some ⟨_, 0, none⟩) 1 1 m.list rfl (zAW _ _ m (by simp)) (by unfold maxLen; omega) (by omega) HN.out.size ?_
          intro v' w8 hG
          obtain ⟨A3, cp3, rfl⟩ := zAK hG.own
          replace HN := zIa (HN.out.append 2 rfl rfl hG)
          clear hG
          refine hK.out _ _ (vcells (HN.out.has 3 _ rfl : IsObj _ vb v.list ∧ _).1) (fun _ => ?_)
          (try simp only [Act.put, List.setIfInBounds_toArray, List.set_cons_zero, List.set_cons_succ])
          clear hK K
          repeat (refine zAP (v := ?_) rfl ?_ ?_ ?_; rotate_left 1; rfl; (focus (intro wS hSw; obtain ⟨x0, x1, x2, x3, x4, x5, x6, x7⟩ := hSw; go_simp; first | done | with_reducible rfl)); (try simp only [Act.put, List.setIfInBounds_toArray, List.set_cons_zero, List.set_cons_succ]))
          refine runT rfl (fun K hK => ?_)
          have hs8 := (HN.out.has 1 _ rfl : IsObj _ sb [i64 T, i64 s, i64 so, i64 1, .slice A1 (i) cp1] ∧ _).1
          have z4 := hs8.at' 4 _ rfl
          have y4 := hs8.fz 4
          clear hs8
          go_simp
          replace HN := zIa (HN.out.cdSet 1 rfl 4 (.slice A3 (i + 1) cp3))
          clear z4 y4
          refine hK.out _ _ (vcells (HN.out.has 3 _ rfl : IsObj _ vb v.list ∧ _).1) (fun _ => ?_)
          (try simp only [Act.put, List.setIfInBounds_toArray, List.set_cons_zero, List.set_cons_succ])
          clear hK K
          refine zAO ?_
          have HH9 : Hid (Hold w1 _ [tObj w1.heap.size cb [i64 T, i64 s, i64 so, i64 1], tObj w1.heap.size sb [i64 T, i64 s, i64 so, i64 1, .slice A3 (i + 1) cp3], tRow w1.heap.size 39 7 (.slice A3 (i + 1) cp3) (i + 1) (flatM (mkL (V.take (i + 1))))]) := zIa (by
            have h := HN.out.less (m := [_]) (l := [_, _, _])
            rw [HTK.out, zAL, show flatM [m] = m.list by rw [flatM, flatM, List.append_nil]]
            exact h)
          clear HN
          go_wp2_with fail
          go_roundw
          case rel => exact ⟨i + 1, A3, cp3, by omega, by go_num, HH9⟩
          case measure => first | omega | (simp [RowKit.intOf]; done) | (simp [RowKit.intOf]; omega)
        · refine runT rfl (fun K hK => ?_)
          go_simp
          replace HN := zIa (HN.out.later (zAA (Below.refl _ _) (m.obj 39)))
          refine hK.out _ _ (vcells (HN.out.has 3 _ rfl : IsObj _ vb v.list ∧ _).1) (fun _ => ?_)
          (try simp only [Act.put, List.setIfInBounds_toArray, List.set_cons_zero, List.set_cons_succ])
          clear hK K
          refine runT rfl (fun K hK => ?_)
          have s4 := (HN.out.has 1 _ rfl : IsObj _ sb [i64 T, i64 s, i64 so, i64 1, .slice A1 (i) cp1] ∧ _).1.at' 4 _ rfl
          go_simp
          clear s4
          refine hK.out _ _ (vcells (HN.out.has 3 _ rfl : IsObj _ vb v.list ∧ _).1) (fun _ => ?_)
          (try simp only [Act.put, List.setIfInBounds_toArray, List.set_cons_zero, List.set_cons_succ])
          clear hK K
          refine runT rfl (fun K hK => ?_)
          refine zAN rfl _ _ 27 rfl w1.heap.size 39 _ 7 56 zAV (.slice A1 (i) cp1) (i) (flatM (mkL (V.take i))) rfl (HN.out.has 2 _ rfl) (some ⟨_, 0, none⟩) 1 1 m.list rfl (zAW _ _ m (by simp)) (by unfold maxLen; omega) (by omega) HN.out.size ?_
          intro v' w8 hG
          obtain ⟨A3, cp3, rfl⟩ := zAK hG.own
          replace HN := zIa (HN.out.append 2 rfl rfl hG)
          clear hG
          refine hK.out _ _ (vcells (HN.out.has 3 _ rfl : IsObj _ vb v.list ∧ _).1) (fun _ => ?_)
          (try simp only [Act.put, List.setIfInBounds_toArray, List.set_cons_zero, List.set_cons_succ])
          clear hK K
          repeat (refine zAP (v := ?_) rfl ?_ ?_ ?_; rotate_left 1; rfl; (focus (intro wS hSw; obtain ⟨x0, x1, x2, x3, x4, x5, x6, x7⟩ := hSw; go_simp; first | done | with_reducible rfl)); (try simp only [Act.put, List.setIfInBounds_toArray, List.set_cons_zero, List.set_cons_succ]))
          refine runT rfl (fun K hK => ?_)
          have hs8 := (HN.out.has 1 _ rfl : IsObj _ sb [i64 T, i64 s, i64 so, i64 1, .slice A1 (i) cp1] ∧ _).1
          have z4 := hs8.at' 4 _ rfl
          have y4 := hs8.fz 4
          clear hs8
          go_simp
          replace HN := zIa (HN.out.cdSet 1 rfl 4 (.slice A3 (i + 1) cp3))
          clear z4 y4
          refine hK.out _ _ (vcells (HN.out.has 3 _ rfl : IsObj _ vb v.list ∧ _).1) (fun _ => ?_)
          (try simp only [Act.put, List.setIfInBounds_toArray, List.set_cons_zero, List.set_cons_succ])
          clear hK K
          refine zAO ?_
          have HH9 : Hid (Hold w1 _ [tObj w1.heap.size cb [i64 T, i64 s, i64 so, i64 1], tObj w1.heap.size sb [i64 T, i64 s, i64 so, i64 1, .slice A3 (i + 1) cp3], tRow w1.heap.size 39 7 (.slice A3 (i + 1) cp3) (i + 1) (flatM (mkL (V.take (i + 1))))]) := zIa (by
            have h := HN.out.less (m := [_]) (l := [_, _, _])
            rw [HTK.out, zAL, show flatM [m] = m.list by rw [flatM, flatM, List.append_nil]]
            exact h)
          clear HN
          go_wp2_with fail
          go_roundw
          case rel => exact ⟨i + 1, A3, cp3, by omega, by go_num, HH9⟩
          case measure => first | omega | (simp [RowKit.intOf]; done) | (simp [RowKit.intOf]; omega)
    · obtain rfl : i = V.length := by omega
      have hnn : ¬ (V.length : Int) < (V.length : Int) := by omega
      rw [List.take_length] at HH
      obtain ⟨S, hS⟩ : ∃ S, mkL V = S := ⟨_, rfl⟩
      have HFS : Hid (∀ m ∈ S, m.Fit) := zIa (hS ▸ zDH HVF.out)
      have hSl : S.length = V.length := by rw [← hS, zDU]
      rw [hS] at HH
      have hSn : S.length ≤ 200 := by omega
      rw [← hSl] at HH hnn ⊢
      clear hS hil hi HV1 HV2 HVF hSl
      have hs0 := (HH.out.has 1 _ rfl : IsObj wr sb [i64 T, i64 s, i64 so, i64 1, .slice A1 (S.length) cp1] ∧ _).1
      obtain ⟨q0, q1, q2, q3, q4⟩ : _ ∧ _ ∧ _ ∧ _ ∧ _ := ⟨hs0.at' 0 _ rfl, hs0.at' 1 _ rfl, hs0.at' 2 _ rfl, hs0.at' 3 _ rfl, hs0.at' 4 _ rfl⟩
      have HIS := zIa (IsAt.own (show wr.ownsRow w1.heap.size 39 7 (.slice A1 S.length cp1) S.length (flatM S) from HH.out.has 2 _ rfl))
      clear hs0
      obtain ⟨q, hqe, hqS⟩ := at_in a4 S.length (by omega)
      go_wp2_with fail

      clear hqe
      refine (zAd T s so 1 N A1 cp1 S _ HIS.out HFS.out (by omega) HLAY.out HSO.out.1 HSO.out.2 (by decide) (by decide)).mono ?_
      rintro r w3 ⟨W, l1, yb, ytb, p, c, Yf, An, J, g, rfl, hb3, hP⟩
      have HP := zIa hP
      have HH3 := zIa (HH.out.later (zAB hb3 hP.yd.h.below))
      have HIS3 := zIa (HIS.out.later (zAB hb3 hP.yd.h.below))
      have HCAP := zIa (zBd (show wr.ownsRow w1.heap.size 39 7 (.slice A1 S.length cp1) S.length (flatM S) from HH.out.has 2 _ rfl))
      clear hb3 hP HH HIS q0 q1 q2 q3 q4
      obtain ⟨P, hPe⟩ : ∃ P, S.take q = P := ⟨_, rfl⟩
      have hPl : q = P.length := by rw [← hPe, List.length_take]; omega
      subst hPl
      have HIP := zIa (show IsAt w3 A1 (flatM P) from IsAt.left (ys := flatM (S.drop P.length)) (by rw [← zAL, ← hPe, List.length_take, Nat.min_eq_left hqS, List.take_append_drop]; exact HIS3.out))
      have HPE := zIa hPe
      have HFP : Hid (∀ m ∈ P, m.Fit) := zIa (fun m hm => HFS.out m (List.mem_of_mem_take (hPe ▸ hm)))
      have hcp := HCAP.out
      clear hPe
      have hs0 := (HH3.out.has 1 _ rfl : IsObj w3 sb [i64 T, i64 s, i64 so, i64 1, .slice A1 (S.length) cp1] ∧ _).1
      obtain ⟨q0, q1, q2, q3, q4⟩ : _ ∧ _ ∧ _ ∧ _ ∧ _ := ⟨hs0.at' 0 _ rfl, hs0.at' 1 _ rfl, hs0.at' 2 _ rfl, hs0.at' 3 _ rfl, hs0.at' 4 _ rfl⟩
      have hc0 := (HH3.out.has 0 _ rfl : IsObj w3 cb [i64 T, i64 s, i64 so, i64 1] ∧ _).1
      obtain ⟨u0, u1, u2, u3⟩ : _ ∧ _ ∧ _ ∧ _ := ⟨hc0.at' 0 _ rfl, hc0.at' 1 _ rfl, hc0.at' 2 _ rfl, hc0.at' 3 _ rfl⟩
      have hPS : P.length ≤ cp1 := by omega
      have hPS' : (P.length : Int) ≤ (cp1 : Int) := by omega
      clear hs0 hc0
      go_wp2_with fail
      refine zAE ((fun w' => w'.cell? ⟨cb, 0, none⟩ = some (i64 T) ∧ w'.cell? ⟨cb, 1, none⟩ = some (i64 s) ∧ w'.cell? ⟨cb, 2, none⟩ = some (i64 so) ∧ w'.cell? ⟨cb, 3, none⟩ = some (i64 1) ∧ w'.cell? ⟨sb, 4, none⟩ = some (.slice A1 S.length cp1))) ((0, true) :: (1, true) :: (2, true) :: (3, true) :: (4, true) :: (5, true) :: (6, false) :: (7, true) :: (8, true) :: (9, true) :: (10, true) :: (11, true) :: (12, true) :: (13, true) :: []) (by kernel_rfl) (by kernel_rfl) (by kernel_rfl) (by decide) (fun _ _ _ _ _ h => h) (⟨u0, u1, u2, u3, q4⟩) ?_
      repeat (first | (refine zAC (v := ?_) rfl ?_ ?_ ?_; rotate_left 1; rfl; (focus (intro wS hSw; obtain ⟨x0, x1, x2, x3, x4⟩ := hSw; go_simp; first | done | with_reducible rfl)); (try simp only [Act.put, List.setIfInBounds_toArray, List.set_cons_zero, List.set_cons_succ])) | (refine zAD rfl ?_ ?_; rfl; (try simp only [Act.put, List.setIfInBounds_toArray, List.set_cons_zero, List.set_cons_succ])))
      refine zAF rfl (fun K hK => ?_)
      go_simp
      refine (zAd T s so 1 N A1 cp1 P _ (HIP.out.later (Below.refl _ _).drew) HFP.out (by omega) HLAY.out HSO.out.1 HSO.out.2 (by decide) (by decide)).mono ?_
      rintro r w4 ⟨W2, l2, yb2, ytb2, p2, c2, Yg, Bn, J2, g2, rfl, hb4, hQ⟩
      (try go_wp2_with fail)
      have hbz := zAB (Below.refl w3.heap.size w3).drew (zAB hb4 hQ.yd.h.below)
      have HH4 := zIa (HH3.out.later hbz)
      have HIS4 := zIa (HIS3.out.later hbz)
      have HYa := zIa (HP.out.yd.later hbz)
      have HYb := zIa hQ.yd
      have HTR := zIa HP.out.tr
      have hTK : PTr ⟨yb, ytb, p, c, T, s, so, 1, T⟩ N P Yf (An.take P.length) := by
        have h := HP.out.tr.take hqS
        rw [HPE.out] at h
        exact h
      have hdw := zAB (Below.refl w3.heap.size w3).drew hb4
      have HA2 := zIa (HP.out.yd.later hdw)
      have HXW : Hid (IsObj W2 g (An.map (fun a => .int .i64 a))) := zIa (HA2.out.has HP.out.row).1
      have HISW := zIa (HIS3.out.later hdw)
      have HBW := zIa (zAB HB1.out (HH3.out.later hdw).below)
      have HPA := zIa HP.out.tr.at'
      have HPT := zIa HP.out.tr.tr
      have HDET := zIa (hTK.det hQ.tr ⟨rfl, rfl, rfl, rfl, rfl⟩)
      have HX4 : Hid (IsObj w4 g (An.map (fun a => .int .i64 a))) := zIa (HYa.out.has HP.out.row).1
      have HX2 : Hid (IsObj w4 g2 (Bn.map (fun a => .int .i64 a))) := zIa (HYb.out.has hQ.row).1
      have HAL : Hid (An.length = S.length) := zIa HP.out.tr.len
      clear hb4 hQ hTK hdw HH3 HIS3 HP HIP q0 q1 q2 q3 q4 u0 u1 u2 u3 hbz
      have hs0 := (HH4.out.has 1 _ rfl : IsObj w4 sb [i64 T, i64 s, i64 so, i64 1, .slice A1 (S.length) cp1] ∧ _).1
      obtain ⟨q0, q1, q2, q3, q4⟩ : _ ∧ _ ∧ _ ∧ _ ∧ _ := ⟨hs0.at' 0 _ rfl, hs0.at' 1 _ rfl, hs0.at' 2 _ rfl, hs0.at' 3 _ rfl, hs0.at' 4 _ rfl⟩
      have hc0 := (HH4.out.has 0 _ rfl : IsObj w4 cb [i64 T, i64 s, i64 so, i64 1] ∧ _).1
      obtain ⟨u0, u1, u2, u3⟩ : _ ∧ _ ∧ _ ∧ _ := ⟨hc0.at' 0 _ rfl, hc0.at' 1 _ rfl, hc0.at' 2 _ rfl, hc0.at' 3 _ rfl⟩
      have HSB := zIa hs0
      clear hs0 hc0
      refine hK.out _ _ (⟨u0, u1, u2, u3, q4⟩) (fun _ => ?_)
      (try simp only [Act.put, List.setIfInBounds_toArray, List.set_cons_zero, List.set_cons_succ])
      clear hK K
      repeat (first | (refine zAC (v := ?_) rfl ?_ ?_ ?_; rotate_left 1; rfl; (focus (intro wS hSw; obtain ⟨x0, x1, x2, x3, x4⟩ := hSw; go_simp; first | done | with_reducible rfl)); (try simp only [Act.put, List.setIfInBounds_toArray, List.set_cons_zero, List.set_cons_succ])) | (refine zAD rfl ?_ ?_; rfl; (try simp only [Act.put, List.setIfInBounds_toArray, List.set_cons_zero, List.set_cons_succ])))
      refine zAI ?_
      have HYB : Hid (YdL W2 w4 l2 ⟨yb2, ytb2, p2, c2, T, s, so, 1, T⟩ N (Yf P.length) J2 P.length) := zIa (by
        have h := HYb.out
        rw [HDET.out.1 P.length (Nat.le_refl _)] at h
        exact h)
      have HBN : Hid (Bn = An.take P.length) := zIa HDET.out.2
      clear HYb HDET
      go_wp2_with fail
      clear q0 q1 q2 q3 q4 u0 u1 u2 u3
      go_loopw [97] (fun iv wr => ∃ i : Nat, i ≤ P.length ∧ iv = .int .i64 i ∧ Hid (Below w4.heap.size w4 wr)) (fun iv _ => P.length - (RowKit.intOf iv).toNat)
      case atStart => exact ⟨0, Nat.zero_le _, rfl, zIa (Below.refl _ _)⟩
      case round =>
        obtain ⟨i, hi, rfl, HW⟩ := hrel
        rcases Nat.lt_or_ge i P.length with hil | hil
        · have hil' : (i : Int) < (P.length : Int) := by omega
          have hiS : i < S.length := by omega
          have hiS' : (i : Int) < (S.length : Int) := by omega
          obtain ⟨a, ha⟩ : ∃ a, An[i]? = some a := ⟨_, List.getElem?_eq_getElem (by rw [HAL.out]; exact hiS)⟩
          have cx := (HX4.out.later HW.out).at' i (.int .i64 a) (by rw [List.getElem?_map, ha]; rfl)
          have cy := (HX2.out.later HW.out).at' i (.int .i64 a) (by rw [HBN.out, List.getElem?_map, List.getElem?_take_of_lt hil, ha]; rfl)
          clear ha
          go_wp2_with fail
          refine zAS ((0, true) :: (1, true) :: (2, true) :: (3, true) :: (4, true) :: (5, true) :: (6, true) :: (7, true) :: (8, true) :: []) (by kernel_rfl) (by kernel_rfl) (by kernel_rfl) (by decide) (fun _ _ _ _ _ h => h) (fun hHeld => ?_)
          repeat (first
            | (refine zAC (v := ?_) rfl ?_ ?_ ?_; rotate_left 1; rfl; (focus (intro wS hSw; have hk := zAQ hSw; go_simp; first | done | with_reducible rfl)); (try simp only [Act.put, List.setIfInBounds_toArray, List.set_cons_zero, List.set_cons_succ]))
            | (refine zAD rfl ?_ ?_; rfl; (try simp only [Act.put, List.setIfInBounds_toArray, List.set_cons_zero, List.set_cons_succ]))
            | (refine zAF rfl (fun K hK => ?_); go_simp; (try skip); (try go_wp2_with fail); refine hK.out _ _ ?_ ?_; (focus (first | exact zAB hHeld hb' | exact zAA hHeld _ | exact hHeld)); (try clear hb'); clear hHeld hK K; intro hHeld; (try simp only [Act.put, List.setIfInBounds_toArray, List.set_cons_zero, List.set_cons_succ])))
          first | refine zAI ?_ | skip
          have HWn := zIa (zAB HW.out hHeld)
          clear hHeld cx cy
          go_wp2_with fail
          go_roundw
          case rel => exact ⟨i + 1, by omega, by go_num, HWn⟩
          case measure => first | omega | (simp [RowKit.intOf]; done) | (simp [RowKit.intOf]; omega)
        · obtain rfl : i = P.length := by omega
          have hnn : ¬ (P.length : Int) < (P.length : Int) := by omega
          have q4 := (HSB.out.later HW.out).at' 4 _ rfl
          by_cases hce : cp1 = P.length
          case pos =>
            have HSP := zIa (show S.length = P.length by have := HCAP.out; omega)
            go_wp2_with fail
            have HYB2 := zIa (HYB.out.later HW.out)
            have hk0 : ∃ k, S.length - P.length = k ∧ P.length + k = S.length := ⟨_, rfl, by omega⟩
            obtain ⟨k, hk, hks⟩ := hk0
            rw [hk]
            have HKS := zIa hks
            clear hk hks q4 HYB HW HX4 HX2 HIS4 HSB HH4 HYa HTR
            go_loopw [115] (fun jv wr => ∃ (j : Nat) (lb : List Thing) (Jb : Nat → Nat), j ≤ k ∧ jv = .int .i64 j ∧ Hid (YdL W2 wr lb ⟨yb2, ytb2, p2, c2, T, s, so, 1, T⟩ N (Yf (P.length + j)) Jb (P.length + j))) (fun jv _ => k - (RowKit.intOf jv).toNat)
            case atStart => exact ⟨0, _, _, Nat.zero_le _, rfl, HYB2⟩
            case round =>
              clear HYB2
              obtain ⟨j, lb, Jb, hj, rfl, HY⟩ := hrel
              rcases Nat.lt_or_ge j k with hjl | hjl
              · have hjl' : (j : Int) < (k : Int) := by omega
                exact absurd hjl (by have := HKS.out; have := HSP.out; omega)
              · obtain rfl : j = k := by omega
                have hnn : ¬ (j : Int) < (j : Int) := by omega
                have hks := HKS.out
                have HYe : Hid (YdL W2 wr lb ⟨yb2, ytb2, p2, c2, T, s, so, 1, T⟩ N (Yf S.length) Jb S.length) := zIa (by
                  have h := HY.out
                  rw [hks] at h
                  exact h)
                have HYa := zIa (HA2.out.later HYe.out.h.below)
                clear HY hks
                go_wp2_with fail
                refine (zAi HYa.out HYe.out (by omega) (by omega) (by show T ≤ 1000; omega) (by show T ≤ 1000; omega) rfl rfl rfl).mono ?_
                rintro r w7 ⟨rfl, hb7⟩
                have HB7 := zIa (zAB HBW.out (zAB HYe.out.h.below hb7))
                clear hb7
                go_wp2_with fail
                go_ret
                exact ⟨rfl, HB7.out⟩
          case neg =>
            go_wp2_with fail
            have HYB2 := zIa (HYB.out.later HW.out)
            have hk0 : ∃ k, S.length - P.length = k ∧ P.length + k = S.length := ⟨_, rfl, by omega⟩
            obtain ⟨k, hk, hks⟩ := hk0
            rw [hk]
            generalize hA9 : Option.map (fun x => Addr.add x (P.length * 7)) A1 = A9
            have HA9 := zIa hA9
            clear hA9
            have HKS := zIa hks
            clear hk hks q4 HYB HW HX4 HX2 HIS4 HSB HH4 HYa HTR
            go_loopw [115] (fun jv wr => ∃ (j : Nat) (lb : List Thing) (Jb : Nat → Nat), j ≤ k ∧ jv = .int .i64 j ∧ Hid (YdL W2 wr lb ⟨yb2, ytb2, p2, c2, T, s, so, 1, T⟩ N (Yf (P.length + j)) Jb (P.length + j))) (fun jv _ => k - (RowKit.intOf jv).toNat)
            case atStart => exact ⟨0, _, _, Nat.zero_le _, rfl, HYB2⟩
            case round =>
              clear HYB2
              obtain ⟨j, lb, Jb, hj, rfl, HY⟩ := hrel
              rcases Nat.lt_or_ge j k with hjl | hjl
              · have hjl' : (j : Int) < (k : Int) := by omega
                have hpj : P.length + j < S.length := by have := HKS.out; omega
                have hpj' : (P.length : Int) + (j : Int) < (S.length : Int) := by omega
                obtain ⟨mm, hm⟩ : ∃ mm, S[P.length + j]? = some mm := ⟨_, List.getElem?_eq_getElem hpj⟩
                obtain ⟨a, ha⟩ : ∃ a, An[P.length + j]? = some a := ⟨_, List.getElem?_eq_getElem (by rw [HAL.out]; exact hpj)⟩
                have HDO := zIa ((HPA.out (P.length + j) mm a hm ha).like (B' := ⟨yb2, ytb2, p2, c2, T, s, so, 1, T⟩) ⟨rfl, rfl, rfl, rfl, rfl⟩)
                have HMF := zIa (HFS.out mm (List.mem_of_getElem? hm))
                have HAT : Hid (∀ w', Below W2.heap.size W2 w' → w'.cell? ⟨g, P.length + j, none⟩ = some (.int .i64 a)) := zIa (fun w' hb => (HXW.out.later hb).at' (P.length + j) (.int .i64 a) (by rw [List.getElem?_map, ha]; rfl))
                have cx := HAT.out _ HY.out.h.below
                have hgl := World.block_lt_of_cell? _ _ cx
                obtain ⟨u, hu⟩ : ∃ u, P.length + j = u := ⟨_, rfl⟩
                have hwp : IntKind.i64.wrap ((P.length : Int) + (j : Int)) = (u : Int) := by rw [IntWalk.i64_in _ (by omega)]; omega
                have hus : u < S.length := by omega
                have hus' : (u : Int) < (S.length : Int) := by omega
                have HAU := zIa (hu ▸ HAT.out)
                obtain ⟨bb, off, hA1, hbl, hc⟩ := (HISW.out.later HY.out.h.below).move hm
                have h9 := HA9.out
                rw [hA1] at h9
                obtain ⟨o9, ho9⟩ : ∃ o9, off + P.length * 7 = o9 := ⟨_, rfl⟩
                obtain rfl : A9 = some ⟨bb, o9, none⟩ := by rw [← h9, ← ho9, Option.map_some, zBQ]
                rw [Nat.add_mul, ← Nat.add_assoc, ho9] at hc
                clear hA1 h9 ho9
                obtain ⟨k0, who, ck, ce, v, st, n0⟩ := mm
                obtain ⟨c0, c1, c2', c3, c4, c5, c6⟩ := hc
                simp only at c0 c1 c2' c3 c4 c5 c6
                have hb := zAA (Below.refl wr.heap.size wr) ((⟨k0, who, ck, ce, v, st, n0⟩ : CM).obj 39)
                have HM := zIa (HY.out.more (A := tObj W2.heap.size wr.heap.size (⟨k0, who, ck, ce, v, st, n0⟩ : CM).list) hb (zAM _ _ _) ⟨IsObj.made wr (⟨k0, who, ck, ce, v, st, n0⟩ : CM).list 39, HY.out.h.size⟩ (fun q hq => by cases hq; exact Nat.le_refl _))
                have HRM := zIa (HY.out.rest (tObj W2.heap.size wr.heap.size (⟨k0, who, ck, ce, v, st, n0⟩ : CM).list))
                have hks := HKS.out
                clear hm ha hb HY hu hpj hpj'
                go_wp2_with fail
                clear c0 c1 c2' c3 c4 c5 c6
                generalize wr.alloc ((⟨k0, who, ck, ce, v, st, n0⟩ : CM).obj 39) = wv at HM ⊢
                generalize wr.heap.size = vb at HM HRM ⊢
                have hmo := (HM.out.has HRM.out).1
                refine zAE ((fun w' => w'.cell? ⟨vb, 0, none⟩ = some (i64 k0) ∧ w'.cell? ⟨vb, 1, none⟩ = some (i64 who) ∧ w'.cell? ⟨vb, 2, none⟩ = some (i64 ck) ∧ w'.cell? ⟨vb, 3, none⟩ = some (i64 ce) ∧ w'.cell? ⟨vb, 4, none⟩ = some (u64 v) ∧ w'.cell? ⟨vb, 5, none⟩ = some (i64 st) ∧ w'.cell? ⟨vb, 6, none⟩ = some (i64 n0) ∧ w'.cell? ⟨g, u, none⟩ = some (.int .i64 a))) ((0, true) :: (1, true) :: (3, true) :: (4, true) :: (5, true) :: (6, true) :: (7, true) :: (8, true) :: (2, false) :: (9, true) :: []) (by kernel_rfl) (by kernel_rfl) (by kernel_rfl) (by decide) (fun _ _ _ _ _ h => h) (⟨hmo.at' 0 _ rfl, hmo.at' 1 _ rfl, hmo.at' 2 _ rfl, hmo.at' 3 _ rfl, hmo.at' 4 _ rfl, hmo.at' 5 _ rfl, hmo.at' 6 _ rfl, HAU.out _ (HM.out.later (Below.refl _ _).drew).h.below⟩) ?_
                repeat (first | (refine zAC (v := ?_) rfl ?_ ?_ ?_; rotate_left 1; rfl; (focus (intro wS hSw; obtain ⟨x0, x1, x2, x3, x4, x5, x6, x7⟩ := hSw; go_simp; first | done | with_reducible rfl)); (try simp only [Act.put, List.setIfInBounds_toArray, List.set_cons_zero, List.set_cons_succ])) | (refine zAD rfl ?_ ?_; rfl; (try simp only [Act.put, List.setIfInBounds_toArray, List.set_cons_zero, List.set_cons_succ])))
                refine zAF rfl (fun K hK => ?_)
                go_simp
                clear hmo
                have HMd := zIa (HM.out.later (Below.refl _ _).drew)
                go_at_call 27
                refine (zER HMd.out (by omega) ⟨k0, who, ck, ce, v, st, n0⟩ HMF.out).mono ?_
                rintro r w6 ⟨a', l6, J6, Y6, rfl, hdo, hd, hg⟩
                (try go_wp2_with fail)
                obtain ⟨rfl, rfl⟩ := hdo.det HDO.out HMd.out.ok HMd.out.hT HMd.out.h.fit
                have hmo := (hd.has (HRM.out.go hg)).1
                have HYn : Hid (YdL W2 w6 l6 ⟨yb2, ytb2, p2, c2, T, s, so, 1, T⟩ N (Yf (P.length + (j + 1))) J6 (P.length + (j + 1))) := zIa hd
                refine hK.out _ _ (⟨hmo.at' 0 _ rfl, hmo.at' 1 _ rfl, hmo.at' 2 _ rfl, hmo.at' 3 _ rfl, hmo.at' 4 _ rfl, hmo.at' 5 _ rfl, hmo.at' 6 _ rfl, HAU.out _ hd.h.below⟩) (fun _ => ?_)
                (try simp only [Act.put, List.setIfInBounds_toArray, List.set_cons_zero, List.set_cons_succ])
                clear hK K
                repeat (first | (refine zAC (v := ?_) rfl ?_ ?_ ?_; rotate_left 1; rfl; (focus (intro wS hSw; obtain ⟨x0, x1, x2, x3, x4, x5, x6, x7⟩ := hSw; go_simp; first | done | with_reducible rfl)); (try simp only [Act.put, List.setIfInBounds_toArray, List.set_cons_zero, List.set_cons_succ])) | (refine zAD rfl ?_ ?_; rfl; (try simp only [Act.put, List.setIfInBounds_toArray, List.set_cons_zero, List.set_cons_succ])))
                refine zAI ?_
                clear hmo hdo hd hg HM HRM HMd HAT HAU cx hwp
                go_wp2_with fail
                go_roundw
                case rel => exact ⟨j + 1, _, _, by omega, by go_num, HYn⟩
                case measure => first | omega | (simp [RowKit.intOf]; done) | (simp [RowKit.intOf]; omega)
              · obtain rfl : j = k := by omega
                have hnn : ¬ (j : Int) < (j : Int) := by omega
                have hks := HKS.out
                have HYe : Hid (YdL W2 wr lb ⟨yb2, ytb2, p2, c2, T, s, so, 1, T⟩ N (Yf S.length) Jb S.length) := zIa (by
                  have h := HY.out
                  rw [hks] at h
                  exact h)
                have HYa := zIa (HA2.out.later HYe.out.h.below)
                clear HY hks
                go_wp2_with fail
                refine (zAi HYa.out HYe.out (by omega) (by omega) (by show T ≤ 1000; omega) (by show T ≤ 1000; omega) rfl rfl rfl).mono ?_
                rintro r w7 ⟨rfl, hb7⟩
                have HB7 := zIa (zAB HBW.out (zAB HYe.out.h.below hb7))
                clear hb7
                go_wp2_with fail
                go_ret
                exact ⟨rfl, HB7.out⟩
end Go.Proofs.YtpfjommkjkbonaaGreat
