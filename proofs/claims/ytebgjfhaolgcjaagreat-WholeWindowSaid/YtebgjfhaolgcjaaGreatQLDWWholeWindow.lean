/-
  WholeWindow answers true for all numbers and lists of moves, and leaves all memory that was there as it was. No condition.
-/
import Derived.Test.YtebgjfhaolgcjaaGreatQLD10
import Derived.Test.YtebgjfhaolgcjaaGreatQLD11
import Derived.Test.YtebgjfhaolgcjaaGreatQLD9
namespace Go.Proofs.YtebgjfhaolgcjaaGreat
open Go.RowKit
set_option linter.unusedVariables false

/-- Where the ends lie. -/
abbrev tEnds (base : Nat) (A : Option Addr) (cp : Nat) (E : List Int) : Thing := tRow base 3 1 (.slice A E.length cp) E.length (E.map (Value.int .i64))
theorem isI_of_row {w : World} {base cp : Nat} {A : Option Addr} {E : List Int} (h : (tEnds base A cp E).P w) : IsI w A E ∧ E.length ≤ cp := by
  have h' : w.ownsRow base 3 1 (.slice A E.length cp) E.length (E.map (Value.int .i64)) := h
  refine ⟨fun hp => ?_, zET h'⟩
  obtain ⟨g, cap, hv, h1, h2⟩ := zBK h' hp
  cases hv
  exact ⟨g, 0, rfl, h2, fun i hi => by rw [Nat.zero_add]; exact zEg h' hi⟩
theorem mfld2 (k who ck ce v st n : Int) (w : World) : (Instr.field 39 (.agg #[.int .i64 k, .int .i64 who, .int .i64 ck, .int .i64 ce, .int .u64 v, .int .i64 st, .int .i64 n]) 2).run Tryz.prog w = .ok (.agg #[.int .i64 ck, .int .i64 ce, .int .u64 v, .int .i64 st]) w := by
  simp [Instr.field, go_sem, asAgg]
attribute [local go_sem ↓] mfld2
theorem base0 (x : LM) : ({ x with kind := 0, odd := 0 } : LM).base.k = 0 := by
  have h : LM.k { x with kind := 0, odd := 0 } = 0 := by
    unfold LM.k
    show IntKind.u64.wrap 0 % 3 = 0
    rw [IntKind.wrap_u64]
    rfl
  unfold LM.base
  rw [if_pos h]
  show (if x.take = true then _ else _ : CM).k = 0
  cases x.take <;> rfl
theorem rowL_none (w : World) : RowL w none 0 [] := ⟨Nat.le_refl _, fun i v hi => by simp at hi, fun v hv => by cases hv⟩
set_option maxRecDepth 100000 in
set_option maxHeartbeats 8000000 in
theorem walk_WholeWindow (a0 : Int) (a1 : Int) (a2 : Int) (a3 : Option Addr) (len3 cap3 : Nat) (a4 : Option Addr) (len4 cap4 : Nat) (w : World) (w0 : (Lit.int .i64 a0).wf = true) (w1 : (Lit.int .i64 a1).wf = true) (w2 : (Lit.int .i64 a2).wf = true) (w3 : IsRows w [.inl .i64, .inl .i64, .inl .i64, .inl .i64, .inr true, .inr true, .inl .u64, .inl .i64] a3 len3 cap3) (w4 : IsRows w [.inl .i64, .inl .i64, .inl .i64, .inl .i64, .inr true, .inr true, .inl .u64, .inl .i64] a4 len4 cap4) :
    Calls Tryz.prog 6 #[.int .i64 a0, .int .i64 a1, .int .i64 a2, .slice a3 len3 cap3, .slice a4 len4 cap4] w fun e w' => e = .returned (.bool true) ∧ Below w.heap.size w w' := by
  clear w0 w1 w2
  obtain ⟨V, rfl, hV⟩ := zB4 w3
  obtain ⟨X, rfl, hX⟩ := zB4 w4
  have HV := zIc hV
  have HX := zIc hX
  clear w3 w4 hV hX
  rcases (by omega : 100 < V.length ∨ (V.length ≤ 100 ∧ 20 < X.length) ∨ (V.length ≤ 100 ∧ X.length = 0) ∨ (V.length = 0 ∧ 0 < X.length ∧ X.length ≤ 20) ∨ (0 < V.length ∧ V.length ≤ 100 ∧ 0 < X.length ∧ X.length ≤ 20)) with hbig | ⟨hs, hbig⟩ | ⟨hs, h0⟩ | ⟨h0, hx0, hx1⟩ | ⟨hv0, hv1, hx0, hx1⟩
  · have p3 : decide ((100 : Int) < (V.length : Int)) = true := decide_eq_true (by omega)
    go_enter Tryz.func6, Tryz.ntmps6
    go_wp2_with fail
    refine (zAY _).mono ?_
    rintro e w1 ⟨rfl, hb1⟩
    go_wp2_with fail
    go_ret
    exact ⟨rfl, hb1⟩
  · have p3 : decide ((100 : Int) < (V.length : Int)) = false := decide_eq_false (by omega)
    have p4 : decide ((20 : Int) < (X.length : Int)) = true := decide_eq_true (by omega)
    go_enter Tryz.func6, Tryz.ntmps6
    go_wp2_with fail
    refine (zAY _).mono ?_
    rintro e w1 ⟨rfl, hb1⟩
    go_wp2_with fail
    go_ret
    exact ⟨rfl, hb1⟩
  · have p3 : decide ((100 : Int) < (V.length : Int)) = false := decide_eq_false (by omega)
    have p4 : decide ((20 : Int) < (X.length : Int)) = false := decide_eq_false (by omega)
    have p5 : ((X.length : Int) == 0) = true := by rw [h0]; rfl
    clear h0
    go_enter Tryz.func6, Tryz.ntmps6
    go_wp2_with fail
    refine (zAY _).mono ?_
    rintro e w1 ⟨rfl, hb1⟩
    go_wp2_with fail
    go_ret
    exact ⟨rfl, hb1⟩
  · have p3 : decide ((100 : Int) < (V.length : Int)) = false := decide_eq_false (by omega)
    have p4 : decide ((20 : Int) < (X.length : Int)) = false := decide_eq_false (by omega)
    have p5 : ((X.length : Int) == 0) = false := beq_false_of_ne (by omega)
    have p6 : ((V.length : Int) == 0) = true := by rw [h0]; rfl
    clear h0
    go_enter Tryz.func6, Tryz.ntmps6
    go_wp2_with fail
    refine (zAY _).mono ?_
    rintro e w1 ⟨rfl, hb1⟩
    go_wp2_with fail
    go_ret
    exact ⟨rfl, hb1⟩
  have p3 : decide ((100 : Int) < (V.length : Int)) = false := decide_eq_false (by omega)
  have p4 : decide ((20 : Int) < (X.length : Int)) = false := decide_eq_false (by omega)
  have p5 : ((X.length : Int) == 0) = false := beq_false_of_ne (by omega)
  have p6 : ((V.length : Int) == 0) = false := beq_false_of_ne (by omega)
  obtain ⟨q1, hq1⟩ : ∃ q, bits .and .i64 a1 1 = q := ⟨_, rfl⟩
  have HSC := zIc (fun w => zCz a0 q1 a2 2 0 none 0 [] w (rowL_none w) (by decide) (.inr (.inr rfl)))
  obtain ⟨T, hT⟩ : ∃ T : Nat, 1 + a0 % 4 = T := ⟨(1 + a0 % 4).toNat, by omega⟩
  obtain ⟨s, hs⟩ : ∃ s, 1 + q1 % 4 = s := ⟨_, rfl⟩
  obtain ⟨so, hso⟩ : ∃ so, wrap64 ((IntKind.u64.wrap a2).tmod 5) = so := ⟨_, rfl⟩
  have ho := src5 a2
  rw [hso] at ho
  rw [hT, hs, hso] at HSC
  obtain ⟨N, Q, hbn⟩ := BN.mk' (t := T) (s := s) (so := so) (d := 1) (by omega) (by omega) (by omega) (by omega) (by decide) (by decide) ho.1 ho.2
  have HBN := zIc hbn
  have hT4 : T ≤ 4 := by omega
  have hT1 : 1 ≤ T := by omega
  have hs4 : 1 ≤ s ∧ s ≤ 4 := by omega
  clear hT hs hso hbn
  go_enter Tryz.func6, Tryz.ntmps6
  go_wp2_with fail
  refine (zAY _).mono ?_
  rintro e w1 ⟨rfl, hb1⟩
  have HB1 := zIc hb1
  have HV1 := zIc (HV.out.later hb1)
  have HX1 := zIc (HX.out.later hb1)
  clear hb1 HV HX
  go_wp2_with fail
  refine (HSC.out _).mono ?_
  rintro r w2 ⟨A2, cp2, hS⟩
  have hb3 := zAA hS.below (.cells #[.int .i64 T, .int .i64 s, .int .i64 so, .int .i64 1, .slice A2 0 cp2] 29)
  have HIS : Hid (IsAt (w2.alloc (.cells #[.int .i64 T, .int .i64 s, .int .i64 so, .int .i64 1, .slice A2 0 cp2] 29)) A2 (flatM [])) := zIc ((IsAt.own hS.row).later (zAA (Below.refl _ _) _))
  obtain rfl := hS.ret
  rw [show (topS T 2 0 []).2.2 = [] from rfl]
  unfold scV
  have HB3 := zIc (zAE HB1.out hb3)
  have HV3 := zIc (HV1.out.later hb3)
  have HX3 := zIc (HX1.out.later hb3)
  clear hS hb3 HSC HB1 HV1 HX1 hq1 p3 p4 p5 p6
  go_wp2_with fail
  refine (zDP T s so 1 N A2 cp2 [] _ HIS.out (fun m hm => by cases hm) (by decide) HBN.out.lay ho.1 ho.2 (by decide) (by decide)).mono ?_
  rintro r w4 ⟨W, l, yb, ytb, p, c, Yf, An, J, g, rfl, hbW, hR⟩
  have HD : Hid (YdL W w4 l ⟨yb, ytb, p, c, T, s, so, 1, T⟩ N (Yf 0) J 0) := zIc hR.yd
  have HZ := zIc hR.tr.tr.zero
  have HB4 := zIc (zAE HB3.out hbW)
  have HVM := zIc (HV3.out.later hbW)
  have HXM := zIc (HX3.out.later hbW)
  clear hR hbW HIS HB3 HV3 HX3
  obtain ⟨v6, vd6, X6, hA6⟩ := HD.out.h
  have HA6 := zIc hA6
  clear hA6
  go_wp2_with fail
  refine (zCQ HA6.out).mono ?_
  rintro r w5 ⟨rfl, hb⟩
  have HD5 := zIc ((HD.out.later hb).more (A := tObj W.heap.size w5.heap.size [i64 T, i64 s, i64 so, i64 1]) (zAA (Below.refl _ _) (.cells #[.int .i64 T, .int .i64 s, .int .i64 so, .int .i64 1] 24)) (zAM _ _ _) ⟨IsObj.made w5 [i64 T, i64 s, i64 so, i64 1] 24, (HD.out.later hb).h.size⟩ (fun q hq => by cases hq; exact Nat.le_refl _))
  have HRC := zIc (HD.out.rest (tObj W.heap.size w5.heap.size [i64 T, i64 s, i64 so, i64 1]))
  clear hb HD HA6
  unfold cf
  go_wp2_with fail
  have hsz : (w5.alloc (.cells #[.int .i64 T, .int .i64 s, .int .i64 so, .int .i64 1] 24)).heap.size = w5.heap.size + 1 := by simp
  generalize w5.alloc (.cells #[.int .i64 T, .int .i64 s, .int .i64 so, .int .i64 1] 24) = w6 at HD5 hsz ⊢
  generalize w5.heap.size = cb at HD5 HRC hsz ⊢
  generalize l ++ [tObj W.heap.size cb [i64 T, i64 s, i64 so, i64 1]] = l5 at HD5 HRC
  generalize l.length = jc at HRC
  have hjc := (List.getElem?_eq_some_iff.1 HRC.out.at').1
  have HDM := zIc (HD5.out.more (A := tEnds W.heap.size (some ⟨w6.heap.size, 0, none⟩) 0 []) (zAA (Below.refl _ _) (.cells #[] 3)) (zAy _ _ _ _ _ _) (zD6 w6 W.heap.size _ _ HD5.out.h.size) zEi)
  have HR := zIc (HD5.out.rest (tEnds W.heap.size (some ⟨w6.heap.size, 0, none⟩) 0 []))
  have HRC2 : Hid (Rest (Yf 0) (l5 ++ [tEnds W.heap.size (some ⟨w6.heap.size, 0, none⟩) 0 []]) J jc (tObj W.heap.size cb [i64 T, i64 s, i64 so, i64 1])) := zIc ⟨by rw [List.getElem?_append_left hjc]; exact HRC.out.at', HRC.out.free⟩
  have HW0 : Hid (Win (plOf ⟨yb, ytb, p, c, T, s, so, 1, T⟩ N) T Q (bL N Q T) (Yf 0) [] 0) := zIc (Win.start (fun k a hk => by
    rw [HZ.out] at hk
    have hk' : (List.replicate T (none : Option (Wk × Nat)))[k]? = some (some a) := hk
    rw [List.getElem?_replicate] at hk'
    split at hk' <;> cases hk'))
  have hQb : Q ≤ bL N Q T := Nat.le_max_left _ _
  have hGb : T * (4 * N + 10) ≤ bL N Q T := Nat.le_trans (Nat.mul_le_mul_right _ (Nat.le_succ T)) (Nat.le_max_right _ _)
  generalize l5 ++ [tEnds W.heap.size (some ⟨w6.heap.size, 0, none⟩) 0 []] = l1 at HDM HR HRC2
  obtain ⟨jr, hjr⟩ : ∃ jr, l5.length = jr := ⟨_, rfl⟩
  rw [hjr] at HR
  have HNE : Hid (jc ≠ jr) := zIc (by omega)
  generalize Yf 0 = Y0 at HDM HR HRC2 HW0
  rw [hsz] at HR
  clear HD5 HZ HRC hjc hjr hsz
  generalize w6.alloc (.cells #[] 3) = wl at HDM ⊢
  go_loopw [17, 18, 19, 20] (fun ev mv nv iw wr => ∃ (i nx n : Nat) (l : List Thing) (Y : Yd) (J : Nat → Nat) (A : Option Addr) (cp : Nat) (E : List Int), i ≤ 700 ∧ nx ≤ i ∧ n ≤ 2 * i ∧ mv = .int .i64 i ∧ nv = .int .i64 nx ∧ ev = .slice A E.length cp ∧ iw = .int .i64 i ∧ Hid (YdL W wr l ⟨yb, ytb, p, c, T, s, so, 1, T⟩ N Y J n) ∧ Hid (Rest Y l J jr (tEnds W.heap.size A cp E)) ∧ Hid (Rest Y l J jc (tObj W.heap.size cb [i64 T, i64 s, i64 so, i64 1])) ∧ Hid (Win (plOf ⟨yb, ytb, p, c, T, s, so, 1, T⟩ N) T Q (bL N Q T) Y E i)) (fun _ _ _ iw _ => 700 - (RowKit.intOf iw).toNat)
  case atStart => exact ⟨0, 0, 0, _, _, _, _, _, [], Nat.zero_le _, Nat.le_refl _, Nat.le_refl _, rfl, rfl, rfl, rfl, HDM, HR, HRC2, HW0⟩
  case round =>
    clear HDM HR HRC2 HW0
    obtain ⟨i, nx, n, l, Y, J, A, cp, E, hi, hnx, hn, rfl, rfl, rfl, rfl, HD, HR, HRC, HW⟩ := hrel
    rcases Nat.lt_or_ge i 700 with hil | hil
    · have hil' : (i : Int) < 700 := by omega
      have hco := (HD.out.has HRC.out : IsObj wr cb [i64 T, i64 s, i64 so, i64 1] ∧ _).1
      obtain ⟨q0, q1, q2, q3⟩ : _ ∧ _ ∧ _ ∧ _ := ⟨hco.at' 0 _ rfl, hco.at' 1 _ rfl, hco.at' 2 _ rfl, hco.at' 3 _ rfl⟩
      have hcbl := hco.lt
      have hl0 : ¬ V.length = 0 := by omega
      have hl1 : ¬ (V.length : Int) = 0 := by omega
      have hT0 : ¬ T = 0 := by omega
      have hTi : ¬ (T : Int) = 0 := by omega
      obtain ⟨m, hm, hme⟩ := zAl (u := (i : Int)) (T := V.length) (by omega) (by omega)
      obtain ⟨v, hv⟩ : ∃ v, V[m]? = some v := ⟨_, List.getElem?_eq_getElem hm⟩
      obtain ⟨vb, voff, rfl, hvat⟩ := HVM.out.at' m v hv
      obtain ⟨e0, e1, e2, e3, e4, e5, e6, e7⟩ := hvat.later HD.out.h.below
      have hvcap := HVM.out.cap
      obtain ⟨u, hu, u0, u1⟩ : ∃ u, bits .and .i64 v.who 65535 = u ∧ 0 ≤ u ∧ u ≤ 65535 := ⟨_, zEy v.who, by omega, by omega⟩
      obtain ⟨k, hkT, hke⟩ := zAl (u := u) (T := T) u0 (by omega)
      clear hco hvat hv e0 e2 e3 e4 e5 e6 e7 q1 q2 q3
      go_wp2_with fail
      refine zAN ((0, true) :: (1, true) :: (2, true) :: (3, true) :: (4, true) :: (5, true) :: (6, true) :: (7, true) :: (8, true) :: (9, true) :: (10, true) :: (11, true) :: (12, true) :: []) (by kernel_rfl) (by kernel_rfl) (by kernel_rfl) (by decide) (fun _ _ _ _ _ h => h) (fun hHeld => ?_)
      repeat (first
        | (refine zAC (v := ?_) rfl ?_ ?_ ?_; rotate_left 1; rfl; (focus (intro wS hSw; have hk := zAL hSw; go_simp; first | done | with_reducible rfl)); (try simp only [Act.put, List.setIfInBounds_toArray, List.set_cons_zero, List.set_cons_succ]))
        | (refine zAB rfl ?_ ?_; rfl; (try simp only [Act.put, List.setIfInBounds_toArray, List.set_cons_zero, List.set_cons_succ]))
        | (refine zAG rfl (fun K hK => ?_); go_simp; (try skip); (try go_wp2_with fail); refine hK.out _ _ ?_ ?_; (focus (first | exact zAE hHeld hb' | exact zAA hHeld _ | exact hHeld)); (try clear hb'); clear hHeld hK K; intro hHeld; (try simp only [Act.put, List.setIfInBounds_toArray, List.set_cons_zero, List.set_cons_succ])))
      first | refine zAJ ?_ | skip
      have HDw := zIc (HD.out.later hHeld)
      clear hHeld HD e1 q0 hme hke hu hl0 hl1 hT0 hTi hcbl
      obtain ⟨q, hq⟩ : ∃ q, Y.ts[k]? = some q := by
        rcases HDw.out.busyOr hkT with ⟨K, ii, hq⟩ | hq
        · exact ⟨_, hq⟩
        · exact ⟨_, hq⟩
      have HQ := zIc hq
      clear hq
      go_wp2_with fail
      refine (HDw.out.busy k q.isSome ⟨_, HQ.out, rfl⟩).mono ?_
      rintro r w5 ⟨rfl, hww⟩
      subst hww
      go_upto_if 85 with fail
      go_cut [19, 22] (fun nv av wx => ∃ (nx' n' : Nat) (l' : List Thing) (Y' : Yd) (J' : Nat → Nat) (K : Wk) (ii : Nat), nx' ≤ i + 1 ∧ n' ≤ 2 * i + 1 ∧ nv = .int .i64 nx' ∧ Hid (YdL W wx l' ⟨yb, ytb, p, c, T, s, so, 1, T⟩ N Y' J' n') ∧ Hid (Rest Y' l' J' jr (tEnds W.heap.size A cp E)) ∧ Hid (Win (plOf ⟨yb, ytb, p, c, T, s, so, 1, T⟩ N) T Q (bL N Q T) Y' E i) ∧ Hid (Rest Y' l' J' jc (tObj W.heap.size cb [i64 T, i64 s, i64 so, i64 1])) ∧ Hid (Y'.ts[k]? = some (some (K, ii))))
      case first =>
        rcases q with _ | ⟨K, ii⟩
        · skip
          have hx0' : ¬ X.length = 0 := by omega
          have hx1' : ¬ (X.length : Int) = 0 := by omega
          obtain ⟨m, hm, hme⟩ := zAl (u := (nx : Int)) (T := X.length) (by omega) (by omega)
          obtain ⟨x, hx⟩ : ∃ x, X[m]? = some x := ⟨_, List.getElem?_eq_getElem hm⟩
          obtain ⟨xb, xoff, rfl, hxat⟩ := HXM.out.at' m x hx
          obtain ⟨e0, e1, e2, e3, e4, e5, e6, e7⟩ := hxat.later HDw.out.h.below
          have hxcap := HXM.out.cap
          have hxl := World.block_lt_of_cell? _ _ e0
          have HXF := zIc (HXM.out.fit x (List.mem_of_getElem? hx))
          have HDa := zIc (HDw.out.later (zAA (Below.refl _ _) (({ x with kind := 0, odd := 0 } : LM).obj 32)))
          have hnw : IntKind.i64.wrap ((nx : Int) + 1) = (nx : Int) + 1 := IntWalk.i64_in _ (by omega)
          clear hxat hx
          go_wp2_with fail
          refine (zBo { x with kind := 0, odd := 0 } _).mono ?_
          rintro r w6 ⟨rfl, hb6⟩
          have HDb := zIc (HDa.out.later hb6)
          rw [LM.even rfl]
          have hbf := LM.base_fit (v := { x with kind := 0, odd := 0 }) HXF.out
          have hbb := LM.base_beg (v := { x with kind := 0, odd := 0 }) (base0 x)
          clear hb6 HDa e0 e1 e2 e3 e4 e5 e6 e7 hxl HDw hx0' hx1' hme
          generalize ({ x with kind := 0, odd := 0 } : LM).base = bb at hbf hbb ⊢
          obtain ⟨kk, who, ck, ce, xv, stt, nn⟩ := bb
          obtain ⟨_, _, _, hce, hck⟩ := hbb
          simp only at hbf hce hck
          obtain ⟨take, htk⟩ : ∃ take, kdI take = ck := by
            rcases hck with ⟨h, _⟩ | ⟨h, _⟩
            · exact ⟨false, h.symm⟩
            · exact ⟨true, h.symm⟩
          subst htk
          have HCE := zIc hce
          have HBF := zIc hbf
          clear hck hce hbf
          go_wp2_with fail
          refine (HDb.out.callIdle (by omega) k HQ.out take rfl ce xv stt HCE.out HBF.out.1 HBF.out.2).mono ?_
          rintro r w7 ⟨rfl, l2, J2, hd, hg⟩
          have HD2 := zIc hd
          have HR2 := zIc (HR.out.go hg)
          have HC2 := zIc (HRC.out.go hg)
          have HW2 := zIc (HW.out.call (kd := kdI take) (e := ce) (x := xv) (s := stt) HQ.out (OLeft.begun (who := (k : Int)) (e := ce) (x := xv) (start := stt) (nb := 2 * N + T) (h0 := 2 * N) (hw := 2 * N + k) (m := (k : Int) * s) take HBN.out.lay HBN.out.q))
          have HQ2 := zIc (show (Y.ts.set k (some (wkB ⟨yb, ytb, p, c, T, s, so, 1, T⟩ N k take ce xv stt, Y.ds.length)))[k]? = _ from List.getElem?_set_self (List.getElem?_eq_some_iff.1 HQ.out).1)
          clear hd hg HDb HR HRC HW HQ
          go_wp2_with fail
          go_meet
          exact ⟨nx + 1, n + 1, l2, _, J2, _, _, by omega, by omega, by go_num, HD2, HR2, HW2, HC2, HQ2⟩
        · go_wp2_with fail
          go_meet
          exact ⟨nx, n, l, Y, J, K, ii, by omega, by omega, rfl, HDw, HR, HW, HRC, HQ⟩
      case rest =>
        clear HDw HR HRC HW HQ
        obtain ⟨nx', n', l', Y', J', K, ii, hnx', hn', rfl, HD, HR, HW, HRC, HQ⟩ := hcut
        go_wp2_with fail
        refine (HD.out.step (by omega) k K ii HQ.out).mono ?_
        rintro r w6 ⟨rfl, l2, z, hz, hd, hg⟩
        have HD2 := zIc hd
        have HR2 := zIc (HR.out.go hg)
        have HC2 := zIc (HRC.out.go hg)
        rcases zDt (z := z) HQ.out with ⟨hp, hq⟩ | ⟨hp, hq⟩
        · have HQ2 := zIc hq
          have HW2 := zIc (HW.out.step HD.out.ok (fun _ => rfl) HQ.out hz HD.out.fit hp)
          clear hz hd hg hp hq HD HR HRC HW
          go_wp2_with fail
          refine (HD2.out.busy k true ⟨_, HQ2.out, rfl⟩).mono ?_
          rintro r w7 ⟨rfl, rfl⟩
          go_wp2_with fail
          go_roundw
          case rel => exact ⟨i + 1, nx', n' + 1, l2, _, J', A, cp, E, by omega, by omega, by omega, by go_num, rfl, rfl, by go_num, HD2, HR2, HC2, HW2⟩
          case measure => first | omega | (simp [RowKit.intOf]; done) | (simp [RowKit.intOf]; omega)
        · have HQ2 := zIc hq
          have HW2 := zIc (HW.out.ended HD.out.ok (fun _ => rfl) (by omega) hQb hGb HQ.out hz HD.out.fit)
          have hEl := HW.out.len
          clear hz hd hg hp hq HD HR HRC HW
          go_wp2_with fail
          refine (HD2.out.busy k false ⟨_, HQ2.out, rfl⟩).mono ?_
          rintro r w7 ⟨rfl, rfl⟩
          go_wp2_with (at_builtin; refine zAI rfl _ _ 82 rfl W.heap.size 3 _ 1 8 zDV (.slice A E.length cp) E.length (E.map (Value.int .i64)) rfl (HD2.out.later (zAA (Below.refl _ _) (.cells #[.int .i64 i] 3)) |>.has HR2.out) (some ⟨_, 0, none⟩) 1 1 [.int .i64 i] rfl (zBE w6 [.int .i64 i] 3 1 1 rfl (zDJ _ _)) (by unfold maxLen; omega) (by omega) (HD2.out.later (zAA (Below.refl _ _) (.cells #[.int .i64 i] 3))).h.size ?_; intro v8 w8 hG)
          obtain ⟨A8, cp8, rfl⟩ := zAK hG.own
          have hH := (HD2.out.later (zAA (Below.refl _ _) (.cells #[.int .i64 i] 3))).h.hold.append jr rfl HR2.out.at' hG
          obtain ⟨hd8, hr8⟩ := (HD2.out.later (zAA (Below.refl _ _) (.cells #[.int .i64 i] 3))).turnRest HR2.out hH
          have hc8 := HC2.out.set (j := jr) (fun e => HNE.out e.symm) (tRow W.heap.size 3 1 (.slice A8 (E.length + 1) cp8) (E.length + 1) (E.map (Value.int .i64) ++ [.int .i64 i]))
          have eE : tRow W.heap.size 3 1 (.slice A8 (E.length + 1) cp8) (E.length + 1) (E.map (Value.int .i64) ++ [.int .i64 i]) = tEnds W.heap.size A8 cp8 (E ++ [(i : Int)]) := by
            show _ = tRow _ _ _ (.slice _ (E ++ [(i : Int)]).length _) (E ++ [(i : Int)]).length ((E ++ [(i : Int)]).map (Value.int .i64))
            rw [List.length_append, List.map_append]
            rfl
          rw [eE] at hd8 hr8 hc8
          have HD8 := zIc hd8
          have HR8 := zIc hr8
          have HC8 := zIc hc8
          clear hG hH hd8 hr8 hc8 eE
          go_wp2_with fail
          go_roundw
          case rel => exact ⟨i + 1, nx', n' + 1, _, _, J', A8, cp8, E ++ [(i : Int)], by omega, by omega, by omega, by go_num, rfl, by rw [List.length_append]; rfl, by go_num, HD8, HR8, HC8, HW2⟩
          case measure => first | omega | (simp [RowKit.intOf]; done) | (simp [RowKit.intOf]; omega)
    · obtain rfl : i = 700 := by omega
      have hnn : ¬ (700 : Int) < (700 : Int) := by omega
      have hgp := HW.out.out HD.out.ok (fun _ => rfl) (by omega) hQb hGb
      have hrg := HW.out.rng
      have hlen := HW.out.len
      obtain ⟨h3, h4⟩ := isI_of_row (HD.out.has HR.out)
      have HI := zIc h3
      have HRG := zIc hrg
      obtain ⟨Wd, hWd⟩ : ∃ Wd, T * bL N Q T + 1 = Wd := ⟨_, rfl⟩
      rw [hWd] at hgp
      obtain ⟨G, hG⟩ : ∃ G, gapsV E 700 = G := ⟨_, rfl⟩
      have HWD := zIc (fun w => zEx HBN.out T Wd rfl hWd w)
      have HGE := zIc hG
      have hle : G ≤ (Wd : Int) := by rw [← hG]; exact hgp
      have HGA : Hid (Calls Tryz.prog 36 #[.slice A E.length cp, .int .i64 700] wr.drew fun r w' => r = .returned (i64 G) ∧ Below wr.drew.heap.size wr.drew w') := zIc ((zDv _ A cp E 700 (HI.out.later (Below.refl _ _).drew) h4 (by omega) (fun e he => by have := HRG.out e he; omega) ⟨by omega, by omega⟩).mono (fun r w' h => ⟨h.1.trans (zAw HGE.out), h.2⟩))
      have hco := (HD.out.has HRC.out : IsObj wr cb [i64 T, i64 s, i64 so, i64 1] ∧ _).1
      obtain ⟨q0, q1, q2, q3⟩ : _ ∧ _ ∧ _ ∧ _ := ⟨hco.at' 0 _ rfl, hco.at' 1 _ rfl, hco.at' 2 _ rfl, hco.at' 3 _ rfl⟩
      have HB7 := zIc (zAE HB4.out HD.out.h.below)
      clear hWd hG hgp hrg h3 hco HD HR HRC HW
      go_wp2_with fail
      refine zAN ((0, true) :: (1, true) :: (3, true) :: (2, false) :: (4, false) :: (5, true) :: (6, true) :: []) (by kernel_rfl) (by kernel_rfl) (by kernel_rfl) (by decide) (fun _ _ _ _ _ h => h) (fun hHeld => ?_)
      repeat (first
        | (refine zAC (v := ?_) rfl ?_ ?_ ?_; rotate_left 1; rfl; (focus (intro wS hSw; have hk := zAL hSw; go_simp; first | done | with_reducible rfl)); (try simp only [Act.put, List.setIfInBounds_toArray, List.set_cons_zero, List.set_cons_succ]))
        | (refine zAB rfl ?_ ?_; rfl; (try simp only [Act.put, List.setIfInBounds_toArray, List.set_cons_zero, List.set_cons_succ]))
        | (refine zAG rfl (fun K hK => ?_); go_simp; (try (first | (go_at_call 36; refine (HGA.out).mono ?_; rintro e w' ⟨rfl, hb'⟩) | (go_at_call 37; refine (HWD.out _).mono ?_; rintro e w' ⟨rfl, hb'⟩))); (try go_wp2_with fail); refine hK.out _ _ ?_ ?_; (focus (first | exact zAE hHeld hb' | exact zAA hHeld _ | exact hHeld)); (try clear hb'); clear hHeld hK K; intro hHeld; (try simp only [Act.put, List.setIfInBounds_toArray, List.set_cons_zero, List.set_cons_succ])))
      first | refine zAJ ?_ | skip
      go_wp2_with fail
      go_ret
      exact ⟨rfl, zAE HB7.out hHeld⟩
end Go.Proofs.YtebgjfhaolgcjaaGreat
