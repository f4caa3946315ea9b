/-
  PlaySame answers true for all numbers and lists of moves, and leaves all memory that was there as it was. No condition.
-/
import Derived.Test.YtpfjommkjkbonaaGreatQF10
import Derived.Test.YtpfjommkjkbonaaGreatQF11
import Derived.Test.YtpfjommkjkbonaaGreatQF2
namespace Go.Proofs.YtpfjommkjkbonaaGreat
open Go.RowKit
set_option linter.unusedVariables false

theorem vcells {w : World} {b : Nat} {v : LM} (h : IsObj w b v.list) : w.cell? ⟨b, 0, none⟩ = some (i64 v.kind) ∧ w.cell? ⟨b, 1, none⟩ = some (i64 v.who) ∧ w.cell? ⟨b, 2, none⟩ = some (i64 v.n) ∧ w.cell? ⟨b, 3, none⟩ = some (i64 v.start) ∧ w.cell? ⟨b, 4, none⟩ = some (.bool v.take) ∧ w.cell? ⟨b, 5, none⟩ = some (.bool v.right) ∧ w.cell? ⟨b, 6, none⟩ = some (u64 v.value) ∧ w.cell? ⟨b, 7, none⟩ = some (i64 v.odd) :=
  ⟨h.at' 0 _ rfl, h.at' 1 _ rfl, h.at' 2 _ rfl, h.at' 3 _ rfl, h.at' 4 _ rfl, h.at' 5 _ rfl, h.at' 6 _ rfl, h.at' 7 _ rfl⟩
theorem lessOf_mem : ∀ (S : List CM) (A : List Int) (m : CM), m ∈ lessOf S A → m ∈ S
  | [], _, m, h => by rw [lessOf] at h; cases h; exact fun _ _ _ _ h => by cases h
  | x :: S, [], m, h => by rw [lessOf] at h; cases h; exact fun _ _ _ _ _ h => by cases h
  | x :: S, a :: A, m, h => by
    rw [lessOf] at h
    split at h
    · rcases List.mem_cons.1 h with e | e
      · rw [e]; exact List.mem_cons_self
      · exact List.mem_cons_of_mem _ (lessOf_mem S A m e)
    · exact List.mem_cons_of_mem _ (lessOf_mem S A m h)
theorem take_an {A : List Int} {i : Nat} {a : Int} (h : A[i]? = some a) : A.take (i + 1) = A.take i ++ [a] := by rw [List.take_add_one, h]; rfl
set_option maxRecDepth 100000 in
set_option maxHeartbeats 8000000 in
theorem walk_PlaySame (a0 : Int) (a1 : Int) (a2 : Int) (a3 : Option Addr) (len3 cap3 : Nat) (w : World) (w0 : (Lit.int .i64 a0).wf = true) (w1 : (Lit.int .i64 a1).wf = true) (w2 : (Lit.int .i64 a2).wf = true) (w3 : IsRows w [.inl .i64, .inl .i64, .inl .i64, .inl .i64, .inr true, .inr true, .inl .u64, .inl .i64] a3 len3 cap3) :
    Calls Tryz.prog 6 #[.int .i64 a0, .int .i64 a1, .int .i64 a2, .slice a3 len3 cap3] w fun e w' => e = .returned (.bool true) ∧ Below w.heap.size w w' := by
  clear w0 w1 w2
  obtain ⟨V, rfl, hV⟩ := zBU w3
  have HV := zIa hV
  clear w3 hV
  rcases Nat.lt_or_ge 200 V.length with hbig | hs4
  · have hbig' : (200 : Int) < (V.length : Int) := by omega
    go_enter Tryz.func6, Tryz.ntmps6
    go_wp2_with fail
    refine (zAh _).mono ?_
    rintro e w1 ⟨rfl, hb1⟩
    go_wp2_with fail
    go_ret
    exact ⟨rfl, hb1⟩
  have hs5 : ¬ (200 : Int) < (V.length : Int) := by omega
  have HCF := zIa (fun w => zBj a0 a1 a2 1 w)
  rw [show (1 : Int) % 4 = 1 from rfl] at HCF
  obtain ⟨T, hT⟩ : ∃ T : Nat, 1 + a0 % 4 = T := ⟨(1 + a0 % 4).toNat, by omega⟩
  obtain ⟨s, hs⟩ : ∃ s, 1 + a1 % 4 = s := ⟨_, rfl⟩
  obtain ⟨so, hso⟩ : ∃ so, wrap64 ((IntKind.u64.wrap a2).tmod 5) = so := ⟨_, rfl⟩
  have ho := src5 a2
  rw [hso] at ho
  rw [hT, hs, hso] at HCF
  obtain ⟨N, hN⟩ : ∃ N : Nat, (T : Int) * s = N := ⟨((T : Int) * s).toNat, by have := Int.mul_nonneg (by omega : (0 : Int) ≤ (T : Int)) (by omega : 0 ≤ s); omega⟩
  have HLAY : Hid (Lay T s N) := zIa (hN ▸ Lay.mk' (by omega) (by omega) (by omega) (by omega))
  have hT4 : T ≤ 4 := by omega
  have HSO := zIa ho
  clear hT hs hso hN ho
  go_enter Tryz.func6, Tryz.ntmps6
  go_wp2_with fail
  refine (zAh _).mono ?_
  rintro e w1 ⟨rfl, hb1⟩
  have HB1 := zIa hb1
  have HV1 := zIa (HV.out.later hb1)
  clear hb1 HV
  go_wp2_with fail
  refine (HCF.out _).mono ?_
  rintro r w2 ⟨rfl, hb2⟩
  have HH0 := ((Hold.nil (Below.refl w1.heap.size w1)).later hb2).more (A := tObj w1.heap.size w2.heap.size [i64 T, i64 s, i64 so, i64 1]) (zAA (Below.refl _ _) (.cells #[.int .i64 T, .int .i64 s, .int .i64 so, .int .i64 1] 24)) (zAM _ _ _) ⟨IsObj.made _ [i64 T, i64 s, i64 so, i64 1] 24, hb2.size⟩ (fun q hq => by cases hq; exact Nat.le_refl _)
  have HH1 := HH0.more (A := tObj w1.heap.size (w2.alloc (.cells #[.int .i64 T, .int .i64 s, .int .i64 so, .int .i64 1] 24)).heap.size [i64 T, i64 s, i64 so, i64 1, .slice none (0) 0]) (zAA (Below.refl _ _) (.cells #[.int .i64 T, .int .i64 s, .int .i64 so, .int .i64 1, .slice none (0) 0] 29)) (zAM _ _ _) ⟨IsObj.made _ [i64 T, i64 s, i64 so, i64 1, .slice none (0) 0] 29, HH0.size⟩ (fun q hq => by cases hq; exact Nat.le_refl _)
  have HH2 := HH1.more (A := tRow w1.heap.size 39 7 (.slice none 0 0) 0 []) (Below.refl _ _) (zAf _ _ _ _ _ _) (World.ownsRow_nil _ _ _ _) (fun q hq => by cases hq)
  simp only [World.size_alloc] at HH2
  have HV2 := zIa (HV1.out.later hb2)
  have HH := zIa HH2
  have HVF := zIa HV1.out.fit
  clear HH0 HH1 HH2 hb2 HCF
  go_wp2_with fail
  generalize hsb : w2.heap.size + 1 = sb at HH ⊢
  generalize hcb : w2.heap.size = cb at HH ⊢
  clear hsb hcb
  go_loopw [38] (fun iv wr => ∃ (i : Nat) (A1 : Option Addr) (cp1 : Nat), i ≤ V.length ∧ iv = .int .i64 i ∧ Hid (Hold w1 wr [tObj w1.heap.size cb [i64 T, i64 s, i64 so, i64 1], tObj w1.heap.size sb [i64 T, i64 s, i64 so, i64 1, .slice A1 (i) cp1], tRow w1.heap.size 39 7 (.slice A1 (i) cp1) (i) (flatM (mkL (V.take i)))])) (fun iv _ => V.length - (RowKit.intOf iv).toNat)
  case atStart => exact ⟨0, none, 0, Nat.zero_le _, rfl, HH⟩
  case round =>
    clear HH
    obtain ⟨i, A1, cp1, hi, rfl, HH⟩ := hrel
    rcases Nat.lt_or_ge i V.length with hil | hil
    · have hil' : (i : Int) < (V.length : Int) := by omega
      obtain ⟨v, hv⟩ : ∃ v, V[i]? = some v := ⟨_, List.getElem?_eq_getElem hil⟩
      obtain ⟨b, off, rfl, hat⟩ := HV1.out.at' i v hv
      have HTK := zIa (zCJ hv)
      obtain ⟨e0, e1, e2, e3, e4, e5, e6, e7⟩ := hat.later (HH.out.below)
      have hcap := HV1.out.cap
      obtain ⟨m, hm⟩ : ∃ m, v.make = m := ⟨_, rfl⟩
      have HMK := zIa (fun w => zA8 v w)
      rw [hm] at HMK HTK
      have HN := zIa (HH.out.more (A := tObj w1.heap.size wr.heap.size v.list) (zAA (Below.refl _ _) (v.obj 32)) (zAM _ _ _) ⟨IsObj.made wr v.list 32, HH.out.size⟩ (fun q hq => by cases hq; exact Nat.le_refl _))
      clear hat hv hm HH
      go_wp2_with fail
      clear e0 e1 e2 e3 e4 e5 e6 e7
      generalize wr.alloc (v.obj 32) = wv at HN ⊢
      generalize wr.heap.size = vb at HN ⊢
      replace HN := zIa HN.out.drew
      refine zAY (fun w' => w'.cell? ⟨vb, 0, none⟩ = some (i64 v.kind) ∧ w'.cell? ⟨vb, 1, none⟩ = some (i64 v.who) ∧ w'.cell? ⟨vb, 2, none⟩ = some (i64 v.n) ∧ w'.cell? ⟨vb, 3, none⟩ = some (i64 v.start) ∧ w'.cell? ⟨vb, 4, none⟩ = some (.bool v.take) ∧ w'.cell? ⟨vb, 5, none⟩ = some (.bool v.right) ∧ w'.cell? ⟨vb, 6, none⟩ = some (u64 v.value) ∧ w'.cell? ⟨vb, 7, none⟩ = some (i64 v.odd)) (.take 0 (.take 2 (.two 1 (.one 3 (.one 4 (.one 5 (.take 6 (.one 7 .nil))))) 3 (.two 1 (.one 4 (.one 5 (.take 6 (.one 7 .nil)))) 4 (.one 1 (.one 5 (.take 6 (.one 7 .nil)))))))) (by kernel_rfl) (by kernel_rfl) (by kernel_rfl) (by decide) (fun _ _ _ _ _ h => h) (vcells (HN.out.has 3 _ rfl : IsObj _ vb v.list ∧ _).1) ?_
      repeat (refine zAP (v := ?_) rfl ?_ ?_ ?_; rotate_left 1; rfl; (focus (intro wS hSw; obtain ⟨x0, x1, x2, x3, x4, x5, x6, x7⟩ := hSw; go_simp; first | done | with_reducible rfl)); (try simp only [Act.put, List.setIfInBounds_toArray, List.set_cons_zero, List.set_cons_succ]))
      refine ⟨?_, ?_⟩
      · refine runT rfl (fun K hK => ?_)
        have s4 := (HN.out.has 1 _ rfl : IsObj _ sb [i64 T, i64 s, i64 so, i64 1, .slice A1 (i) cp1] ∧ _).1.at' 4 _ rfl
        go_simp
        clear s4
        refine hK.out _ _ (vcells (HN.out.has 3 _ rfl : IsObj _ vb v.list ∧ _).1) (fun _ => ?_)
        (try simp only [Act.put, List.setIfInBounds_toArray, List.set_cons_zero, List.set_cons_succ])
        clear hK K
        refine runT rfl (fun K hK => ?_)
        go_simp
        go_at_call 12
        refine (HMK.out _).mono ?_
        rintro r w3 ⟨rfl, hb3⟩
        (try go_wp2_with fail)
        replace HN := zIa (HN.out.later hb3)
        clear hb3
        refine hK.out _ _ (vcells (HN.out.has 3 _ rfl : IsObj _ vb v.list ∧ _).1) (fun _ => ?_)
        (try simp only [Act.put, List.setIfInBounds_toArray, List.set_cons_zero, List.set_cons_succ])
        clear hK K
        refine runT rfl (fun K hK => ?_)
        go_simp
        replace HN := zIa (HN.out.later (zAA (Below.refl _ _) (m.obj 39)))
        refine hK.out _ _ (vcells (HN.out.has 3 _ rfl : IsObj _ vb v.list ∧ _).1) (fun _ => ?_)
        (try simp only [Act.put, List.setIfInBounds_toArray, List.set_cons_zero, List.set_cons_succ])
        clear hK K
        refine runT rfl (fun K hK => ?_)
        refine zAN rfl _ _ 27 rfl w1.heap.size 39 _ 7 56 zAV (.slice A1 (i) cp1) (i) (flatM (mkL (V.take i))) rfl (HN.out.has 2 _ rfl) (some ⟨_, 0, none⟩) 1 1 m.list rfl (zAW _ _ m (by simp)) (by unfold maxLen; omega) (by omega) HN.out.size ?_
        intro v' w8 hG
        obtain ⟨A3, cp3, rfl⟩ := zAK hG.own
        replace HN := zIa (HN.out.append 2 rfl rfl hG)
        clear hG
        refine hK.out _ _ (vcells (HN.out.has 3 _ rfl : IsObj _ vb v.list ∧ _).1) (fun _ => ?_)
        (try simp only [Act.put, List.setIfInBounds_toArray, List.set_cons_zero, List.set_cons_succ])
        clear hK K
        repeat (refine zAP (v := ?_) rfl ?_ ?_ ?_; rotate_left 1; rfl; (focus (intro wS hSw; obtain ⟨x0, x1, x2, x3, x4, x5, x6, x7⟩ := hSw; go_simp; first | done | with_reducible rfl)); (try simp only [Act.put, List.setIfInBounds_toArray, List.set_cons_zero, List.set_cons_succ]))
        refine runT rfl (fun K hK => ?_)
        have hs8 := (HN.out.has 1 _ rfl : IsObj _ sb [i64 T, i64 s, i64 so, i64 1, .slice A1 (i) cp1] ∧ _).1
        have z4 := hs8.at' 4 _ rfl
        have y4 := hs8.fz 4
        clear hs8
        go_simp
        replace HN := zIa (HN.out.cdSet 1 rfl 4 (.slice A3 (i + 1) cp3))
        clear z4 y4
        refine hK.out _ _ (vcells (HN.out.has 3 _ rfl : IsObj _ vb v.list ∧ _).1) (fun _ => ?_)
        (try simp only [Act.put, List.setIfInBounds_toArray, List.set_cons_zero, List.set_cons_succ])
        clear hK K
        refine zAO ?_
        have HH9 : Hid (Hold w1 _ [tObj w1.heap.size cb [i64 T, i64 s, i64 so, i64 1], tObj w1.heap.size sb [i64 T, i64 s, i64 so, i64 1, .slice A3 (i + 1) cp3], tRow w1.heap.size 39 7 (.slice A3 (i + 1) cp3) (i + 1) (flatM (mkL (V.take (i + 1))))]) := zIa (by
          have h := HN.out.less (m := [_]) (l := [_, _, _])
          rw [HTK.out, zAL, show flatM [m] = m.list by rw [flatM, flatM, List.append_nil]]
          exact h)
        clear HN
        go_wp2_with fail
        go_roundw
        case rel => exact ⟨i + 1, A3, cp3, by omega, by go_num, HH9⟩
        case measure => first | omega | (simp [RowKit.intOf]; done) | (simp [RowKit.intOf]; omega)
      · refine runT rfl (fun K hK => ?_)
        go_simp
        go_at_call 12
        refine (HMK.out _).mono ?_
        rintro r w3 ⟨rfl, hb3⟩
        (try go_wp2_with fail)
        replace HN := zIa (HN.out.later hb3)
        clear hb3
        refine hK.out _ _ (vcells (HN.out.has 3 _ rfl : IsObj _ vb v.list ∧ _).1) (fun _ => ?_)
        (try simp only [Act.put, List.setIfInBounds_toArray, List.set_cons_zero, List.set_cons_succ])
        clear hK K
        refine ⟨?_, ?_⟩
        · refine runT rfl (fun K hK => ?_)
          have s4 := (HN.out.has 1 _ rfl : IsObj _ sb [i64 T, i64 s, i64 so, i64 1, .slice A1 (i) cp1] ∧ _).1.at' 4 _ rfl
          go_simp
          clear s4
          refine hK.out _ _ (vcells (HN.out.has 3 _ rfl : IsObj _ vb v.list ∧ _).1) (fun _ => ?_)
          (try simp only [Act.put, List.setIfInBounds_toArray, List.set_cons_zero, List.set_cons_succ])
          clear hK K
          refine runT rfl (fun K hK => ?_)
          go_simp
          replace HN := zIa (HN.out.later (zAA (Below.refl _ _) (m.obj 39)))
          refine hK.out _ _ (vcells (HN.out.has 3 _ rfl : IsObj _ vb v.list ∧ _).1) (fun _ => ?_)
          (try simp only [Act.put, List.setIfInBounds_toArray, List.set_cons_zero, List.set_cons_succ])
          clear hK K
          refine runT rfl (fun K hK => ?_)
          refine zAN rfl _ _ 27 rfl w1.heap.size 39 _ 7 56 zAV (.slice A1 (i) cp1) (i) (flatM (mkL (V.take i))) rfl (HN.out.has 2 _ rfl) (some ⟨_, 0, none⟩) 1 1 m.list rfl (zAW _ _ m (by simp)) (by unfold maxLen; omega) (by omega) HN.out.size ?_
          intro v' w8 hG
          obtain ⟨A3, cp3, rfl⟩ := zAK hG.own
          replace HN := zIa (HN.out.append 2 rfl rfl hG)
          clear hG
          refine hK.out _ _ (vcells (HN.out.has 3 _ rfl : IsObj _ vb v.list ∧ _).1) (fun _ => ?_)
          (try simp only [Act.put, List.setIfInBounds_toArray, List.set_cons_zero, List.set_cons_succ])
          clear hK K
          repeat (refine zAP (v := ?_) rfl ?_ ?_ ?_; rotate_left 1; rfl; (focus (intro wS hSw; obtain ⟨x0, x1, x2, x3, x4, x5, x6, x7⟩ := hSw; go_simp; first | done | with_reducible rfl)); (try simp only [Act.put, List.setIfInBounds_toArray, List.set_cons_zero, List.set_cons_succ]))
          refine runT rfl (fun K hK => ?_)
          have hs8 := (HN.out.has 1 _ rfl : IsObj _ sb [i64 T, i64 s, i64 so, i64 1, .slice A1 (i) cp1] ∧ _).1
          have z4 := hs8.at' 4 _ rfl
          have y4 := hs8.fz 4
          clear hs8
          go_simp
          replace HN := zIa (HN.out.cdSet 1 rfl 4 (.slice A3 (i + 1) cp3))
          clear z4 y4
          refine hK.out _ _ (vcells (HN.out.has 3 _ rfl : IsObj _ vb v.list ∧ _).1) (fun _ => ?_)
          (try simp only [Act.put, List.setIfInBounds_toArray, List.set_cons_zero, List.set_cons_succ])
          clear hK K
          refine zAO ?_
          have HH9 : Hid (Hold w1 _ [tObj w1.heap.size cb [i64 T, i64 s, i64 so, i64 1], tObj w1.heap.size sb [i64 T, i64 s, i64 so, i64 1, .slice A3 (i + 1) cp3], tRow w1.heap.size 39 7 (.slice A3 (i + 1) cp3) (i + 1) (flatM (mkL (V.take (i + 1))))]) := zIa (by
            have h := HN.out.less (m := [_]) (l := [_, _, _])
            rw [HTK.out, zAL, show flatM [m] = m.list by rw [flatM, flatM, List.append_nil]]
            exact h)
          clear HN
          go_wp2_with fail
          go_roundw
          case rel => exact ⟨i + 1, A3, cp3, by omega, by go_num, HH9⟩
          case measure => first | omega | (simp [RowKit.intOf]; done) | (simp [RowKit.intOf]; omega)
        · refine runT rfl (fun K hK => ?_)
          go_simp
          replace HN := zIa (HN.out.later (zAA (Below.refl _ _) (m.obj 39)))
          refine hK.out _ _ (vcells (HN.out.has 3 _ rfl : IsObj _ vb v.list ∧ _).1) (fun _ => ?_)
          (try simp only [Act.put, List.setIfInBounds_toArray, List.set_cons_zero, List.set_cons_succ])
          clear hK K
          refine runT rfl (fun K hK => ?_)
          have s4 := (HN.out.has 1 _ rfl : IsObj _ sb [i64 T, i64 s, i64 so, i64 1, .slice A1 (i) cp1] ∧ _).1.at' 4 _ rfl
          go_simp
          clear s4
          refine hK.out _ _ (vcells (HN.out.has 3 _ rfl : IsObj _ vb v.list ∧ _).1) (fun _ => ?_)
          (try simp only [Act.put, List.setIfInBounds_toArray, List.set_cons_zero, List.set_cons_succ])
          clear hK K
          refine runT rfl (fun K hK => ?_)
          refine zAN rfl _ _ 27 rfl w1.heap.size 39 _ 7 56 zAV (.slice A1 (i) cp1) (i) (flatM (mkL (V.take i))) rfl (HN.out.has 2 _ rfl) (some ⟨_, 0, none⟩) 1 1 m.list rfl (zAW _ _ m (by simp)) (by unfold maxLen; omega) (by omega) HN.out.size ?_
          intro v' w8 hG
          obtain ⟨A3, cp3, rfl⟩ := zAK hG.own
          replace HN := zIa (HN.out.append 2 rfl rfl hG)
          clear hG
          refine hK.out _ _ (vcells (HN.out.has 3 _ rfl : IsObj _ vb v.list ∧ _).1) (fun _ => ?_)
          (try simp only [Act.put, List.setIfInBounds_toArray, List.set_cons_zero, List.set_cons_succ])
          clear hK K
          repeat (refine zAP (v := ?_) rfl ?_ ?_ ?_; rotate_left 1; rfl; (focus (intro wS hSw; obtain ⟨x0, x1, x2, x3, x4, x5, x6, x7⟩ := hSw; go_simp; first | done | with_reducible rfl)); (try simp only [Act.put, List.setIfInBounds_toArray, List.set_cons_zero, List.set_cons_succ]))
          refine runT rfl (fun K hK => ?_)
          have hs8 := (HN.out.has 1 _ rfl : IsObj _ sb [i64 T, i64 s, i64 so, i64 1, .slice A1 (i) cp1] ∧ _).1
          have z4 := hs8.at' 4 _ rfl
          have y4 := hs8.fz 4
          clear hs8
          go_simp
          replace HN := zIa (HN.out.cdSet 1 rfl 4 (.slice A3 (i + 1) cp3))
          clear z4 y4
          refine hK.out _ _ (vcells (HN.out.has 3 _ rfl : IsObj _ vb v.list ∧ _).1) (fun _ => ?_)
          (try simp only [Act.put, List.setIfInBounds_toArray, List.set_cons_zero, List.set_cons_succ])
          clear hK K
          refine zAO ?_
          have HH9 : Hid (Hold w1 _ [tObj w1.heap.size cb [i64 T, i64 s, i64 so, i64 1], tObj w1.heap.size sb [i64 T, i64 s, i64 so, i64 1, .slice A3 (i + 1) cp3], tRow w1.heap.size 39 7 (.slice A3 (i + 1) cp3) (i + 1) (flatM (mkL (V.take (i + 1))))]) := zIa (by
            have h := HN.out.less (m := [_]) (l := [_, _, _])
            rw [HTK.out, zAL, show flatM [m] = m.list by rw [flatM, flatM, List.append_nil]]
            exact h)
          clear HN
          go_wp2_with fail
          go_roundw
          case rel => exact ⟨i + 1, A3, cp3, by omega, by go_num, HH9⟩
          case measure => first | omega | (simp [RowKit.intOf]; done) | (simp [RowKit.intOf]; omega)
    · obtain rfl : i = V.length := by omega
      have hnn : ¬ (V.length : Int) < (V.length : Int) := by omega
      rw [List.take_length] at HH
      obtain ⟨S, hS⟩ : ∃ S, mkL V = S := ⟨_, rfl⟩
      have HFS : Hid (∀ m ∈ S, m.Fit) := zIa (hS ▸ zDH HVF.out)
      have hSl : S.length = V.length := by rw [← hS, zDU]
      rw [hS] at HH
      have hSn : S.length ≤ 200 := by omega
      rw [← hSl] at HH hnn ⊢
      clear hS hil hi HV1 HV2 HVF hSl
      have hs0 := (HH.out.has 1 _ rfl : IsObj wr sb [i64 T, i64 s, i64 so, i64 1, .slice A1 (S.length) cp1] ∧ _).1
      obtain ⟨q0, q1, q2, q3, q4⟩ : _ ∧ _ ∧ _ ∧ _ ∧ _ := ⟨hs0.at' 0 _ rfl, hs0.at' 1 _ rfl, hs0.at' 2 _ rfl, hs0.at' 3 _ rfl, hs0.at' 4 _ rfl⟩
      have HIS := zIa (IsAt.own (show wr.ownsRow w1.heap.size 39 7 (.slice A1 S.length cp1) S.length (flatM S) from HH.out.has 2 _ rfl))
      clear hs0
      go_wp2_with fail
      refine (zAd T s so 1 N A1 cp1 S _ HIS.out HFS.out (by omega) HLAY.out HSO.out.1 HSO.out.2 (by decide) (by decide)).mono ?_
      rintro r w3 ⟨W, l1, yb, ytb, p, c, Yf, An, J, g, rfl, hb3, hP⟩
      have HP := zIa hP
      have HH3 := zIa (HH.out.later (zAB hb3 hP.yd.h.below))
      have HIS3 := zIa (HIS.out.later (zAB hb3 hP.yd.h.below))
      clear hb3 hP HH HIS q0 q1 q2 q3 q4
      have hs0 := (HH3.out.has 1 _ rfl : IsObj w3 sb [i64 T, i64 s, i64 so, i64 1, .slice A1 (S.length) cp1] ∧ _).1
      obtain ⟨q0, q1, q2, q3, q4⟩ : _ ∧ _ ∧ _ ∧ _ ∧ _ := ⟨hs0.at' 0 _ rfl, hs0.at' 1 _ rfl, hs0.at' 2 _ rfl, hs0.at' 3 _ rfl, hs0.at' 4 _ rfl⟩
      clear hs0
      go_wp2_with fail
      refine (zAd T s so 1 N A1 cp1 S _ HIS3.out HFS.out (by omega) HLAY.out HSO.out.1 HSO.out.2 (by decide) (by decide)).mono ?_
      rintro r w4 ⟨W2, l2, yb2, ytb2, p2, c2, Yg, Bn, J2, g2, rfl, hb4, hQ⟩
      have HH4 := zIa (HH3.out.later (zAB hb4 hQ.yd.h.below))
      have HIS4 := zIa (HIS3.out.later (zAB hb4 hQ.yd.h.below))
      have HYa := zIa (HP.out.yd.later (zAB hb4 hQ.yd.h.below))
      have HYb := zIa hQ.yd
      have HTR := zIa HP.out.tr
      have HEQ : Hid (Yg S.length = Yf S.length) := zIa ((HP.out.tr.det hQ.tr ⟨rfl, rfl, rfl, rfl, rfl⟩).1 S.length (Nat.le_refl _))
      have HX4 : Hid (IsObj w4 g (An.map (fun a => .int .i64 a))) := zIa (HYa.out.has HP.out.row).1
      have HAL : Hid (An.length = S.length) := zIa HP.out.tr.len
      clear hb4 hQ HH3 HIS3 HP q0 q1 q2 q3 q4
      have hs0 := (HH4.out.has 1 _ rfl : IsObj w4 sb [i64 T, i64 s, i64 so, i64 1, .slice A1 (S.length) cp1] ∧ _).1
      obtain ⟨q0, q1, q2, q3, q4⟩ : _ ∧ _ ∧ _ ∧ _ ∧ _ := ⟨hs0.at' 0 _ rfl, hs0.at' 1 _ rfl, hs0.at' 2 _ rfl, hs0.at' 3 _ rfl, hs0.at' 4 _ rfl⟩
      have hc0 := (HH4.out.has 0 _ rfl : IsObj w4 cb [i64 T, i64 s, i64 so, i64 1] ∧ _).1
      obtain ⟨u0, u1, u2, u3⟩ : _ ∧ _ ∧ _ ∧ _ := ⟨hc0.at' 0 _ rfl, hc0.at' 1 _ rfl, hc0.at' 2 _ rfl, hc0.at' 3 _ rfl⟩
      have hltc := hc0.lt
      have hlts := hs0.lt
      have HL0 := zIa (((Hold.nil (Below.refl w4.heap.size w4)).more (A := tObj w4.heap.size w4.heap.size [i64 T, i64 s, i64 so, i64 1, .slice none (0) 0]) (zAA (Below.refl _ _) (.cells #[.int .i64 T, .int .i64 s, .int .i64 so, .int .i64 1, .slice none (0) 0] 29)) (zAM _ _ _) ⟨IsObj.made _ [i64 T, i64 s, i64 so, i64 1, .slice none (0) 0] 29, Nat.le_refl _⟩ (fun q hq => by cases hq; exact Nat.le_refl _)).more (A := tRow w4.heap.size 39 7 (.slice none 0 0) 0 []) (Below.refl _ _) (zAf _ _ _ _ _ _) (World.ownsRow_nil _ _ _ _) (fun q hq => by cases hq))
      clear hs0 hc0
      go_wp2_with fail
      clear q0 q1 q2 q3 q4 u0 u1 u2 u3 hltc hlts
      go_loopw [81] (fun iv wr => ∃ (i : Nat) (A2 : Option Addr) (cp2 : Nat) (l : List CM), i ≤ S.length ∧ iv = .int .i64 i ∧ Hid (lessOf (S.take i) (An.take i) = l) ∧ Hid (Hold w4 wr [tObj w4.heap.size w4.heap.size [i64 T, i64 s, i64 so, i64 1, .slice A2 (l.length) cp2], tRow w4.heap.size 39 7 (.slice A2 l.length cp2) l.length (flatM l)])) (fun iv _ => S.length - (RowKit.intOf iv).toNat)
      case atStart => exact ⟨0, none, 0, [], Nat.zero_le _, rfl, zIa (by rw [List.take_zero, List.take_zero]; rfl), HL0⟩
      case round =>
        clear HL0
        obtain ⟨i, A2, cp2, l, hi, rfl, HL, HH⟩ := hrel
        have hll : l.length ≤ i := by rw [← HL.out]; exact Nat.le_trans (zBW _ _) (by rw [List.length_take]; omega)
        rcases Nat.lt_or_ge i S.length with hil | hil
        · have hil' : (i : Int) < (S.length : Int) := by omega
          obtain ⟨mm, hm⟩ : ∃ mm, S[i]? = some mm := ⟨_, List.getElem?_eq_getElem hil⟩
          obtain ⟨a, ha⟩ : ∃ a, An[i]? = some a := ⟨_, List.getElem?_eq_getElem (by rw [HAL.out]; exact hil)⟩
          have HSN : Hid (lessOf (S.take (i + 1)) (An.take (i + 1)) = l ++ (if a = 0 then [mm] else [])) := zIa (by
            rw [zCM hm, take_an ha, zBC _ _ _ _ (by rw [List.length_take, List.length_take, HAL.out]), HL.out])
          have cx := (HX4.out.later HH.out.below).at' i (.int .i64 a) (by rw [List.getElem?_map, ha]; rfl)
          have hgl := World.block_lt_of_cell? _ _ cx
          obtain ⟨bb, off, rfl, hbl, hc⟩ := (HIS4.out.later HH.out.below).move hm
          obtain ⟨k, who, ck, ce, v, st, n⟩ := mm
          obtain ⟨c0, c1, c2, c3, c4, c5, c6⟩ := hc
          have hsb := (HH.out.has 0 _ rfl : IsObj wr w4.heap.size [i64 T, i64 s, i64 so, i64 1, .slice A2 (l.length) cp2] ∧ _).1
          have s4 := hsb.at' 4 _ rfl
          have htl := hsb.lt
          clear hm ha hsb
          simp only at c0 c1 c2 c3 c4 c5 c6
          by_cases ha0 : a = 0
          case neg =>
            have hab : (a == 0) = false := beq_false_of_ne ha0
            have HHn := zIa (HH.out.later (zAA (Below.refl _ _) ((⟨k, who, ck, ce, v, st, n⟩ : CM).obj 39)))
            have HSM := zIa (HSN.out.trans (by rw [if_neg ha0, List.append_nil]))
            clear ha0
            go_wp2_with fail
            go_roundw
            case rel => exact ⟨i + 1, A2, cp2, l, by omega, by go_num, HSM, HHn⟩
            case measure => first | omega | (simp [RowKit.intOf]; done) | (simp [RowKit.intOf]; omega)
          case pos =>
            have HSM := zIa (HSN.out.trans (by rw [if_pos ha0]))
            subst ha0
            have HLa := zIa ((HH.out.later (zAA (Below.refl _ _) ((⟨k, who, ck, ce, v, st, n⟩ : CM).obj 39))).later (zAA (Below.refl _ _) ((⟨k, who, ck, ce, v, st, n⟩ : CM).obj 39)))
            go_wp2_with (at_builtin; go_loud (refine zAJ rfl _ _ 27 rfl w4.heap.size 39 _ 7 56 zAV (.slice A2 l.length cp2) l.length (flatM l) rfl (HLa.out.has 1 _ rfl) (some ⟨_, 0, none⟩) 1 1 (⟨k, who, ck, ce, v, st, n⟩ : CM).list rfl (zAW _ _ ⟨k, who, ck, ce, v, st, n⟩ (by simp)) (by unfold maxLen; omega) (by omega) HLa.out.size ?_); intro v' w8 hG; go_loud (obtain ⟨A3, cp3, rfl⟩ := zAK hG.own; have HH8 := zIa (HLa.out.append 1 rfl rfl hG); have hs8 := (HH8.out.has 0 _ rfl : IsObj w8 w4.heap.size [i64 T, i64 s, i64 so, i64 1, .slice A2 (l.length) cp2] ∧ _).1; have z4 := hs8.at' 4 _ rfl; have y4 := hs8.fz 4; clear hs8 hG s4 c0 c1 c2 c3 c4 c5 c6))
            have HH9 := zIa (HH8.out.cdSet 0 rfl 4 (.slice A3 (l.length + 1) cp3))
            clear HH8 HLa z4 y4
            go_roundw
            case rel =>
              refine ⟨i + 1, A3, cp3, l ++ [⟨k, who, ck, ce, v, st, n⟩], by omega, by go_num, HSM, zIa ?_⟩
              have h := HH9.out
              rw [List.length_append, List.length_singleton, zAL, show flatM [(⟨k, who, ck, ce, v, st, n⟩ : CM)] = (⟨k, who, ck, ce, v, st, n⟩ : CM).list by rw [flatM, flatM, List.append_nil]]
              exact h
            case measure => first | omega | (simp [RowKit.intOf]; done) | (simp [RowKit.intOf]; omega)
        · obtain rfl : i = S.length := by omega
          have hnn : ¬ (S.length : Int) < (S.length : Int) := by omega
          have hll2 : l.length ≤ S.length := hll
          rw [List.take_length, List.take_of_length_le (by rw [HAL.out]; exact Nat.le_refl _)] at HL
          have hs0 := (HH.out.has 0 _ rfl : IsObj wr w4.heap.size [i64 T, i64 s, i64 so, i64 1, .slice A2 (l.length) cp2] ∧ _).1
          obtain ⟨q0, q1, q2, q3, q4⟩ : _ ∧ _ ∧ _ ∧ _ ∧ _ := ⟨hs0.at' 0 _ rfl, hs0.at' 1 _ rfl, hs0.at' 2 _ rfl, hs0.at' 3 _ rfl, hs0.at' 4 _ rfl⟩
          have HIL := zIa (IsAt.own (show wr.ownsRow w4.heap.size 39 7 (.slice A2 l.length cp2) l.length (flatM l) from HH.out.has 1 _ rfl))
          have HFL : Hid (∀ m ∈ l, m.Fit) := zIa (by rw [← HL.out]; exact fun m hm => HFS.out m (lessOf_mem _ _ m hm))
          clear hs0
          go_wp2_with fail
          refine (zAd T s so 1 N A2 cp2 l _ HIL.out HFL.out (by omega) HLAY.out HSO.out.1 HSO.out.2 (by decide) (by decide)).mono ?_
          rintro r w5 ⟨W3, l3, yb3, ytb3, p3, c3, Yh, Cn, J3, g3, rfl, hb5, hR⟩
          have hbz := zAB HH.out.below (zAB hb5 hR.yd.h.below)
          have KA := zIa (HYa.out.later hbz)
          have KB := zIa (HYb.out.later hbz)
          have KC := zIa hR.yd
          have HEC : Hid (Yh l.length = Yf S.length) := zIa (by
            obtain ⟨Y2, A2', h2, e⟩ := HTR.out.less HFS.out S.length (Nat.le_refl _)
            rw [List.take_length, List.take_of_length_le (by rw [HAL.out]; exact Nat.le_refl _), HL.out] at h2 e
            rw [← e]
            exact (h2.det hR.tr ⟨rfl, rfl, rfl, rfl, rfl⟩).1 l.length (Nat.le_refl _))
          have HB5 := zIa (zAB HB1.out (zAB HH4.out.below hbz))
          clear hb5 hR hbz HH HYa HYb HIL HFL q0 q1 q2 q3 q4 HIS4 HX4 HTR HH4
          go_wp2_with fail
          refine (zAi KA.out KB.out (by omega) (by omega) (by show T ≤ 1000; omega) (by show T ≤ 1000; omega) (by rw [HEQ.out]) (by rw [HEQ.out]) (by rw [HEQ.out])).mono ?_
          rintro r w6 ⟨rfl, hb6⟩
          have KA6 := zIa (KA.out.later hb6)
          have KC6 := zIa (KC.out.later hb6)
          have HB6 := zIa (zAB HB5.out hb6)
          clear hb6 KA KB KC HB5
          go_wp2_with fail
          refine (zAi KA6.out KC6.out (by omega) (by omega) (by show T ≤ 1000; omega) (by show T ≤ 1000; omega) (by rw [HEC.out]) (by rw [HEC.out]) (by rw [HEC.out])).mono ?_
          rintro r w7 ⟨rfl, hb7⟩
          have HB7 := zIa (zAB HB6.out hb7)
          clear hb7
          go_wp2_with fail
          go_ret
          exact ⟨rfl, HB7.out⟩
end Go.Proofs.YtpfjommkjkbonaaGreat
