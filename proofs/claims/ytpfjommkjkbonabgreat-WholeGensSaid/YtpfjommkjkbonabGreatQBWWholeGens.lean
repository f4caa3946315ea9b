/-
  WholeGens answers true for all numbers and lists of moves, and leaves all memory that was there as it was. No condition.
-/
import Derived.Test.YtpfjommkjkbonabGreatQB12
import Derived.Test.YtpfjommkjkbonabGreatQB1
namespace Go.Proofs.YtpfjommkjkbonabGreat
open Go.RowKit
set_option linter.unusedVariables false

theorem wfld2 (s e g lo hi : Int) (w : World) : (Instr.field 80 (wd s e g lo hi) 2).run Tryz.prog w = .ok (i64 g) w := by
  simp [Instr.field, go_sem, asAgg]
attribute [local go_sem ↓] wfld2
theorem made_i64s' (n : Nat) : (madeCells (Value.int .i64 0).cells (n * 1)).toList = (List.replicate n (0 : Int)).map i64 := by
  rw [Nat.mul_one, List.map_replicate]
  exact toList_madeCells_one (.int .i64 0) n
theorem cnt_take' {p : Dd → Bool} {l : List Dd} {j : Nat} {d : Dd} (h : l[j]? = some d) : cntL p (l.take (j + 1)) = cntL p (l.take j) + if p d = true then 1 else 0 := by
  rw [List.take_add_one, h]
  exact cntL_snoc
theorem genW_in (x : Int) : 0 ≤ genW x ∧ genW x ≤ 8191 := by unfold genW; omega
theorem gsum_in (s : Nat) (C : List Int) (w : Nat) : ∀ n : Nat, 0 ≤ gsum s C w n ∧ gsum s C w n ≤ 8191 * n
  | 0 => ⟨Int.le_refl _, by show (0 : Int) ≤ _; omega⟩
  | n + 1 => by
    have h := gsum_in s C w n
    have g := genW_in (C.getD n 0)
    rw [gsum]
    split <;> omega
/-- A yard, a Conf, a row of sums, and something else beside it. -/
structure SumAt (W w : World) (l : List Thing) (B : YB) (N : Nat) (Y : Yd) (J : Nat → Nat) (n cb g : Nat) (X : List Int) (A : Thing) : Prop where
  yd : YdL W w l B N Y J n
  rows : ∃ j i k, Rest Y l J j (tObj W.heap.size cb [i64 B.t, i64 B.s, i64 B.so, i64 B.d]) ∧ Rest Y l J i (tObj W.heap.size g (X.map i64)) ∧ Rest Y l J k A ∧ j ≠ i ∧ k ≠ i
section
variable {W w w' : World} {l : List Thing} {B : YB} {N : Nat} {Y : Yd} {J : Nat → Nat} {n cb g : Nat} {X : List Int} {A : Thing}
theorem Rest.set' {j n : Nat} {A : Thing} (h : Rest Y l J n A) (hj : n ≠ j) (A' : Thing) : Rest Y (l.set j A') J n A := ⟨by rw [List.getElem?_set_ne hj.symm]; exact h.at', h.free⟩
theorem Rest.app' {j : Nat} {A C : Thing} (h : Rest Y l J j A) : Rest Y (l ++ [C]) J j A := ⟨by rw [List.getElem?_append_left (List.getElem?_eq_some_iff.1 h.at').1]; exact h.at', h.free⟩
theorem SumAt.later (h : SumAt W w l B N Y J n cb g X A) (e : Below w.heap.size w w') : SumAt W w' l B N Y J n cb g X A := ⟨h.yd.later e, h.rows⟩
theorem SumAt.c (h : SumAt W w l B N Y J n cb g X A) : IsObj w cb [i64 B.t, i64 B.s, i64 B.so, i64 B.d] := by
  obtain ⟨j, i, k, h1, _⟩ := h.rows
  exact (h.yd.has h1).1
theorem SumAt.s (h : SumAt W w l B N Y J n cb g X A) : IsObj w g (X.map i64) := by
  obtain ⟨j, i, k, _, h1, _⟩ := h.rows
  exact (h.yd.has h1).1
theorem SumAt.a (h : SumAt W w l B N Y J n cb g X A) : A.P w := by
  obtain ⟨j, i, k, _, _, h1, _⟩ := h.rows
  exact h.yd.has h1
theorem SumAt.at (h : SumAt W w l B N Y J n cb g X A) {v : Nat} (hv : v < X.length) : w.cell? ⟨g, v, none⟩ = some (.int .i64 (X.getD v 0)) := h.s.at' v _ (by rw [List.getElem?_map, List.getD_eq_getElem?_getD, List.getElem?_eq_getElem hv]; rfl)
theorem SumAt.set (h : SumAt W w l B N Y J n cb g X A) (v : Nat) (x : Int) : ∃ l', SumAt W (w.setCell ⟨g, v, none⟩ (.int .i64 x)) l' B N Y J n cb g (X.set v x) A := by
  obtain ⟨j, i, k, h1, h2, h3, h4, h5⟩ := h.rows
  have q := h.yd.h.hold.objSet _ h2.at' v (.int .i64 x)
  rw [show (X.map i64).set v (Value.int .i64 x) = (X.set v x).map i64 from (List.map_set).symm] at q
  obtain ⟨a, b⟩ := h.yd.turnRow h2 q
  exact ⟨_, a, j, i, k, h1.set' h4 _, b, h3.set' h5 _, h4, h5⟩
theorem SumAt.more (h : SumAt W w l B N Y J n cb g X A) {C : Thing} (e : Below w.heap.size w w') (ok : C.Ok W.heap.size) (hP : C.P w') (hF : ∀ q, C.F q → w.heap.size ≤ q) : SumAt W w' (l ++ [C]) B N Y J n cb g X C := by
  obtain ⟨j, i, k, h1, h2, h3, h4, h5⟩ := h.rows
  exact ⟨h.yd.more e ok hP hF, j, i, _, h1.app', h2.app', h.yd.rest C, h4, fun q => by have := (List.getElem?_eq_some_iff.1 h2.at').1; omega⟩
end
/-- The sums so far. -/
def Sums (T s : Nat) (C : List Int) (i : Nat) (D : List Dd) (X : List Int) : Prop := X.length = T ∧ ∀ v, v < T → X.getD v 0 = gsum s C v i - (cntL (putOf v) D : Int)
theorem Sums.start (T s : Nat) (C : List Int) : Sums T s C 0 [] (List.replicate T 0) := ⟨List.length_replicate, fun v hv => by
  rw [List.getD_eq_getElem?_getD, List.getElem?_replicate, if_pos hv]
  rfl⟩
theorem Sums.word {T s i : Nat} {C X : List Int} (h : Sums T s C i [] X) (hv : i / s < T) : Sums T s C (i + 1) [] (X.set (i / s) (X.getD (i / s) 0 + C.getD i 0 / 8 % 8192)) := ⟨by rw [List.length_set]; exact h.1, fun v hvT => by
  rw [gsum]
  by_cases e : i / s = v
  · subst e
    rw [getD_set_eq' _ (by rw [h.1]; exact hv), if_pos rfl, h.2 _ hv]
    show _ = _ + genW _ - ((0 : Nat) : Int)
    unfold genW
    show _ - ((0 : Nat) : Int) + _ = _
    omega
  · rw [getD_set_ne' _ e, if_neg e, h.2 v hvT, Int.add_zero]⟩
theorem Sums.keep {T s N j : Nat} {C X : List Int} {D : List Dd} {d : Dd} (h : Sums T s C N (D.take j) X) (hd : D[j]? = some d) (hp : d.ok = false ∨ d.kd ≠ 0) : Sums T s C N (D.take (j + 1)) X := ⟨h.1, fun v hv => by
  rw [cnt_take' hd, if_neg (by unfold putOf; rcases hp with q | q <;> simp [q])]
  exact h.2 v hv⟩
theorem Sums.deed {T s N j w : Nat} {C X : List Int} {D : List Dd} {d : Dd} (h : Sums T s C N (D.take j) X) (hd : D[j]? = some d) (ho : d.ok = true) (hk : d.kd = 0) (hw : d.who = w) (hwT : w < T) : Sums T s C N (D.take (j + 1)) (X.set w (X.getD w 0 - 1)) := ⟨by rw [List.length_set]; exact h.1, fun v hv => by
  rw [cnt_take' hd]
  by_cases e : w = v
  · subst e
    rw [getD_set_eq' _ (by rw [h.1]; exact hwT), if_pos (by unfold putOf; simp [ho, hk, hw]), h.2 _ hwT]
    omega
  · rw [getD_set_ne' _ e, if_neg (by unfold putOf; simp [ho, hk, hw]; omega), h.2 v hv]
    rfl⟩
theorem Sums.in (T s : Nat) (C : List Int) (i : Nat) (D : List Dd) (X : List Int) (h : Sums T s C i D X) (hi : i ≤ 16) (hD : D.length ≤ 300) (v : Nat) (hv : v < T) : -300 ≤ X.getD v 0 ∧ X.getD v 0 ≤ 131056 := by
  have h1 := h.2 v hv
  have h2 := gsum_in s C v i
  have h3 : cntL (putOf v) D ≤ D.length := List.countP_le_length
  omega

set_option maxRecDepth 100000 in
set_option maxHeartbeats 8000000 in
theorem walk_WholeGens (a0 : Int) (a1 : Int) (a2 : Int) (a3 : Option Addr) (len3 cap3 : Nat) (w : World) (w0 : (Lit.int .i64 a0).wf = true) (w1 : (Lit.int .i64 a1).wf = true) (w2 : (Lit.int .i64 a2).wf = true) (w3 : IsRows w [.inl .i64, .inl .i64, .inl .i64, .inl .i64, .inr true, .inr true, .inl .u64, .inl .i64] a3 len3 cap3) :
    Calls Tryz.prog 9 #[.int .i64 a0, .int .i64 a1, .int .i64 a2, .slice a3 len3 cap3] w fun e w' => e = .returned (.bool true) ∧ Below w.heap.size w w' := by
  clear w0 w1 w2
  obtain ⟨V, rfl, hV⟩ := rows_lms w3
  have HV := Lib.hid hV
  clear w3 hV
  rcases Nat.lt_or_ge 300 V.length with hbig | hs4
  · have hbig' : (300 : Int) < (V.length : Int) := by omega
    go_enter Tryz.func9, Tryz.ntmps9
    go_wp2_with fail
    refine (alive_any _).mono ?_
    rintro e w1 ⟨rfl, hb1⟩
    go_wp2_with fail
    go_ret
    exact ⟨rfl, hb1⟩
  have hs5 : ¬ (300 : Int) < (V.length : Int) := by omega
  go_enter Tryz.func9, Tryz.ntmps9
  go_wp2_with fail
  refine (alive_any _).mono ?_
  rintro e w1 ⟨rfl, hb1⟩
  have HB1 := Lib.hid hb1
  have HV1 := Lib.hid (HV.out.later hb1)
  clear hb1 HV
  go_wp2_with fail
  refine (run_any a0 a1 a2 2 1000 a3 cap3 V _ HV1.out (by omega) (.inr (.inr rfl))).mono ?_
  rintro r w2 ⟨W, l, yb, ytb, p, c, T, s, so, N, S, Yf, An, J, g, hR, hTe⟩
  obtain rfl := hR.ret
  have HY := Lib.hid hR.run.yd
  have HB2 := Lib.hid (below_step HB1.out hR.below)
  have hT4 := hR.T4
  have hT1 := hR.T1
  have hn16 := hR.n16
  have hs1 := hR.s1
  have hss4 := hR.s4
  have HEQ := Lib.hid hR.eq
  have hSl : S.length ≤ 300 := by have h := hR.ok.len; have := hR.few; rw [hR.is] at h; omega
  have HTR := Lib.hid hR.run.tr.tr
  have HPT := Lib.hid hR.run.tr
  have HAK := Lib.hid (hR.ok.asks hR.is hR.run.tr)
  have HTM : Hid (∀ m ∈ S, m.k = 2 → m.n ≤ 32768) := Lib.hid (fun m hm => topS_time (T := 1 + a0 % 4) (mode := 2) (most := 1000) V m (by rw [← hTe, hR.is]; exact hm))
  clear hR HB1 HV1 hTe
  obtain ⟨sn, hsn⟩ : ∃ sn : Nat, s = sn := ⟨s.toNat, by omega⟩
  have HGE := Lib.hid (HTR.out.gens (s := sn) hsn S.length (Nat.le_refl _))
  have HWH : Hid (∀ (i : Nat) (d : Dd), (Yf S.length).ds[i]? = some d → ∃ w : Nat, d.who = w ∧ w < T) := Lib.hid (fun i d hd => by
    obtain ⟨⟨w, h, h2, _⟩, _⟩ := (HTR.out.all S.length (Nat.le_refl _)).ok.deed i d hd
    exact ⟨w, h, h2⟩)
  obtain ⟨m, hm⟩ : ∃ m, S.length = m := ⟨_, rfl⟩
  rw [hm] at HY HGE HWH hSl
  clear hm HPT HAK HTM HEQ HTR
  generalize Yf m = Y at HY HGE HWH
  subst hsn
  have HFT := Lib.hid HY.out.h.fit
  have HLAY : Hid (Lay T sn N) := Lib.hid HY.out.cf.lay
  have HDS : Hid (∀ j, j < N → j / sn < T) := Lib.hid (fun j hj => by
    have := HLAY.out.eq
    refine Nat.div_lt_of_lt_mul ?_
    rw [Nat.mul_comm]
    exact Int.ofNat_lt.1 (by rw [Int.natCast_mul]; omega))
  obtain ⟨v0, vd0, X0, hA0⟩ := HY.out.h
  go_wp2_with fail
  refine (yconf_any hA0).mono ?_
  rintro r w3 ⟨rfl, hb3⟩
  clear hA0
  have hb3' := below_new hb3 (.cells #[.int .i64 T, .int .i64 sn, .int .i64 so, .int .i64 1] 47)
  have HY3 := Lib.hid (HY.out.more (A := tObj W.heap.size w3.heap.size [i64 T, i64 sn, i64 so, i64 1]) hb3' (tObj_ok _ _ _) ⟨IsObj.made w3 [i64 T, i64 sn, i64 so, i64 1] 47, Nat.le_trans HY.out.h.size hb3.size⟩ (fun q hq => by cases hq; exact hb3.size))
  have HR3 := Lib.hid (HY.out.rest (tObj W.heap.size w3.heap.size [i64 T, i64 sn, i64 so, i64 1]))
  have HO3 := Lib.hid (IsObj.made w3 [.int .i64 T, .int .i64 sn, .int .i64 so, .int .i64 1] 47)
  have hsz3 : W.heap.size ≤ (w3.alloc (.cells #[.int .i64 T, .int .i64 sn, .int .i64 so, .int .i64 1] 47)).heap.size := HY3.out.h.size
  clear hb3 hb3' HY
  obtain ⟨im, hm1, hm2, hm3, hm4⟩ := elem_i64.info
  go_wp2_with (at_make; refine wpList_make_full _ rfl _ _ 65 rfl W.heap.size 3 im (.int .i64 0) 1 elem_i64.und hm1 hm2 hm3 .i64 .i64 _ _ T rfl rfl rfl rfl (by rw [hm4]; omega) (by unfold maxLen; omega) hsz3 ?_; intro w4 hown hg; rw [made_i64s', World.size_alloc] at hown; have HS4 := Lib.hid (SumAt.mk (N := N) (Y := Y) (J := J) (n := m) (cb := w3.heap.size) (HY3.out.more (A := tObj W.heap.size (w3.heap.size + 1) ((List.replicate T (0 : Int)).map i64)) ((Below.refl _ _).grown hg (Nat.le_refl _) (fun k hk => by cases hk)) (tObj_ok W.heap.size _ _) ⟨IsObj.rowOf hown (by simp), by simpa using hsz3⟩ (fun q hq => by cases hq; simp)) ⟨_, _, _, HR3.out.app', HY3.out.rest _, HR3.out.app', Nat.ne_of_lt (List.getElem?_eq_some_iff.1 HR3.out.at').1, Nat.ne_of_lt (List.getElem?_eq_some_iff.1 HR3.out.at').1⟩); clear hown hg)
  clear hm1 hm2 hm3 hm4 HY3 HR3 HO3 hsz3
  generalize w3.heap.size + 1 = g1 at HS4 ⊢
  refine HS4.out.yd.words.mono ?_
  rintro r w5 ⟨u5, Xs, rfl, hrow5, hXl, hXs, hb5⟩
  obtain ⟨A5, cp5, rfl⟩ := own_shape hrow5
  have HS5 := Lib.hid (HS4.out.more (C := tRow W.heap.size 31 1 (.slice A5 N cp5) N (Xs.map u64)) hb5 (tRow_ok _ _ _ _ _ _) (row_base hrow5 HS4.out.yd.h.size) (fun q hq => (hrow5.lt q hq).1))
  have HXS : Hid (∀ i, i < N → Xs.getD i 0 = Y.C.getD i 0) := Lib.hid (fun i hi => by rw [hXs i hi, Nat.zero_add])
  have hcap5 := own_cap hrow5
  have HSU := Lib.hid (Sums.start T sn Y.C)
  clear hrow5 hXl hXs hb5 HS4
  generalize l ++ [tObj W.heap.size w3.heap.size [i64 T, i64 sn, i64 so, i64 1]] ++ [tObj W.heap.size g1 ((List.replicate T (0 : Int)).map i64)] ++ [tRow W.heap.size 31 1 (.slice A5 N cp5) N (Xs.map u64)] = l5 at HS5
  generalize w3.heap.size = cb at HS5 ⊢
  go_wp2_with fail
  go_loopw [38] (fun iv wr => ∃ (i : Nat) (l : List Thing) (X : List Int), i ≤ N ∧ iv = .int .i64 i ∧ Hid (SumAt W wr l ⟨yb, ytb, p, c, T, sn, so, 1, T⟩ N Y J m cb g1 X (tRow W.heap.size 31 1 (.slice A5 N cp5) N (Xs.map u64))) ∧ Hid (Sums T sn Y.C i [] X)) (fun iv _ => N - (RowKit.intOf iv).toNat)
  case atStart => exact ⟨0, _, _, Nat.zero_le _, rfl, HS5, HSU⟩
  case round =>
    clear HS5 HSU
    obtain ⟨i, lr, X, hi, rfl, HS, HU⟩ := hrel
    rcases Nat.lt_or_ge i N with hil | hil
    · have hil' : (i : Int) < (N : Int) := by omega
      obtain ⟨gw, rfl⟩ : ∃ gw, A5 = some ⟨gw, 0, none⟩ := by
        obtain ⟨gw, cw, h, _⟩ := row_shape HS.out.a (by omega)
        cases h
        exact ⟨gw, rfl⟩
      have cX : wr.cell? ⟨gw, i, none⟩ = some (u64 (Xs.getD i 0)) := row_at HS.out.a hil
      rw [HXS.out i hil] at cX
      have hf := HFT.out i
      generalize hx : Y.C.getD i 0 = x at cX hf
      have hq := HDS.out i hil
      obtain ⟨q, hqe⟩ : ∃ q, i / sn = q := ⟨_, rfl⟩
      have HQE := Lib.hid hqe
      have HX := Lib.hid hx
      rw [hqe] at hq
      have hqi : (i : Int) / (sn : Int) = (q : Int) := by rw [← hqe]; exact (Int.natCast_ediv i sn).symm
      have HFX := Lib.hid hf
      have HQI := Lib.hid hqi
      have hin := Sums.in _ _ _ _ _ _ HU.out (by omega) (by simp) q hq
      obtain ⟨xq, hxq⟩ : ∃ y, X.getD q 0 = y := ⟨_, rfl⟩
      have HXL := Lib.hid HU.out.1
      have HQL := Lib.hid hq
      have HWD := Lib.hid (HQE.out ▸ HU.out.word (by rw [HQE.out]; exact hq))
      rw [hxq] at hin
      have HXQ := Lib.hid hxq
      clear hqe hx hf hqi hxq
      go_wp2_with fail
      have HCC := Lib.hid HS.out.c
      obtain ⟨e0, e1, e2, e3⟩ : _ ∧ _ ∧ _ ∧ _ := ⟨HCC.out.at' 0 _ rfl, HCC.out.at' 1 _ rfl, HCC.out.at' 2 _ rfl, HCC.out.at' 3 _ rfl⟩
      refine wp_region_seqT (fun w' => w'.cell? ⟨cb, 0, none⟩ = some (i64 T) ∧ w'.cell? ⟨cb, 1, none⟩ = some (i64 sn) ∧ w'.cell? ⟨cb, 2, none⟩ = some (i64 so) ∧ w'.cell? ⟨cb, 3, none⟩ = some (i64 1)) (.take 0 (.take 1 (.take 2 (.take 6 (.one 3 (.take 4 (.two 5 (.one 7 (.take 8 (.take 9 (.take 10 (.one 11 .nil))))) 7 (.take 8 (.one 5 (.take 9 (.take 10 (.one 11 .nil)))))))))))) (by kernel_rfl) (by kernel_rfl) (by kernel_rfl) (by decide) (fun _ _ _ _ _ h => h) ⟨e0, e1, e2, e3⟩ ?_
      repeat (refine seqT_take (v := ?_) rfl ?_ ?_ ?_; rotate_left 1; rfl; (focus (intro wS hSw; obtain ⟨x0, x1, x2, x3⟩ := hSw; go_simp; first | done | with_reducible rfl)); (try simp only [Act.put, List.setIfInBounds_toArray, List.set_cons_zero, List.set_cons_succ]))
      refine runT rfl (fun K hK => ?_)
      go_simp
      go_at_call 37
      refine (cowner_in T sn so 1 N i _ HLAY.out (by omega) hil').mono ?_
      rintro r w6 ⟨rfl, hb6⟩
      (try go_wp2_with fail)
      rw [HQI.out]
      have HS6 := Lib.hid (HS.out.later (below_step (Below.refl _ _).drew hb6))
      clear hb6 HCC HS e0 e1 e2 e3
      have HCC := Lib.hid HS6.out.c
      obtain ⟨e0, e1, e2, e3⟩ : _ ∧ _ ∧ _ ∧ _ := ⟨HCC.out.at' 0 _ rfl, HCC.out.at' 1 _ rfl, HCC.out.at' 2 _ rfl, HCC.out.at' 3 _ rfl⟩
      refine hK.out _ _ ⟨e0, e1, e2, e3⟩ (fun _ => ?_)
      (try simp only [Act.put, List.setIfInBounds_toArray, List.set_cons_zero, List.set_cons_succ])
      clear hK K
      repeat (refine seqT_take (v := ?_) rfl ?_ ?_ ?_; rotate_left 1; rfl; (focus (intro wS hSw; obtain ⟨x0, x1, x2, x3⟩ := hSw; go_simp; first | done | with_reducible rfl)); (try simp only [Act.put, List.setIfInBounds_toArray, List.set_cons_zero, List.set_cons_succ]))
      refine ⟨?_, ?_⟩
      · refine runT rfl (fun K hK => ?_)
        have cs : w6.cell? ⟨g1, q, none⟩ = some (.int .i64 xq) := by rw [← HXQ.out]; exact HS6.out.at (v := q) (by rw [HXL.out]; exact HQL.out)
        go_simp
        clear cs
        refine hK.out _ _ ⟨e0, e1, e2, e3⟩ (fun _ => ?_)
        (try simp only [Act.put, List.setIfInBounds_toArray, List.set_cons_zero, List.set_cons_succ])
        clear hK K
        repeat (refine seqT_take (v := ?_) rfl ?_ ?_ ?_; rotate_left 1; rfl; (focus (intro wS hSw; obtain ⟨x0, x1, x2, x3⟩ := hSw; go_simp; first | done | with_reducible rfl)); (try simp only [Act.put, List.setIfInBounds_toArray, List.set_cons_zero, List.set_cons_succ]))
        refine runT rfl (fun K hK => ?_)
        go_simp
        go_at_call 38
        refine (unpack_any x _ HFX.out.1 HFX.out.2).mono ?_
        rintro r w7 ⟨rfl, hb7⟩
        (try go_wp2_with fail)
        have HS7 := Lib.hid (HS6.out.later hb7)
        clear hb7 HCC HS6 e0 e1 e2 e3
        have HCC := Lib.hid HS7.out.c
        obtain ⟨e0, e1, e2, e3⟩ : _ ∧ _ ∧ _ ∧ _ := ⟨HCC.out.at' 0 _ rfl, HCC.out.at' 1 _ rfl, HCC.out.at' 2 _ rfl, HCC.out.at' 3 _ rfl⟩
        refine hK.out _ _ ⟨e0, e1, e2, e3⟩ (fun _ => ?_)
        (try simp only [Act.put, List.setIfInBounds_toArray, List.set_cons_zero, List.set_cons_succ])
        clear hK K
        repeat (refine seqT_take (v := ?_) rfl ?_ ?_ ?_; rotate_left 1; rfl; (focus (intro wS hSw; obtain ⟨x0, x1, x2, x3⟩ := hSw; go_simp; first | done | with_reducible rfl)); (try simp only [Act.put, List.setIfInBounds_toArray, List.set_cons_zero, List.set_cons_succ]))
        refine runT rfl (fun K hK => ?_)
        have fs := HS7.out.s.fz q
        have cs : w7.cell? ⟨g1, q, none⟩ = some (.int .i64 xq) := by rw [← HXQ.out]; exact HS7.out.at (v := q) (by rw [HXL.out]; exact HQL.out)
        go_simp
        have hwr : IntKind.i64.wrap (xq + x / 8 % 8192) = xq + x / 8 % 8192 := IntWalk.i64_in _ (by omega)
        rw [hwr]
        obtain ⟨l8, hs8⟩ := HS7.out.set q (xq + x / 8 % 8192)
        have HS8 := Lib.hid hs8
        clear hwr cs fs hs8 HCC HS7 e0 e1 e2 e3
        have HCC := Lib.hid HS8.out.c
        obtain ⟨e0, e1, e2, e3⟩ : _ ∧ _ ∧ _ ∧ _ := ⟨HCC.out.at' 0 _ rfl, HCC.out.at' 1 _ rfl, HCC.out.at' 2 _ rfl, HCC.out.at' 3 _ rfl⟩
        refine hK.out _ _ ⟨e0, e1, e2, e3⟩ (fun _ => ?_)
        (try simp only [Act.put, List.setIfInBounds_toArray, List.set_cons_zero, List.set_cons_succ])
        clear hK K
        refine seqT_done ?_
        have HU8 : Hid (Sums T sn Y.C (i + 1) [] (X.set q (xq + x / 8 % 8192))) := Lib.hid (by
          have h := HWD.out
          rw [HXQ.out, HX.out] at h
          exact h)
        clear HCC e0 e1 e2 e3 HWD cX
        go_wp2_with fail
        go_roundw
        case rel => exact ⟨i + 1, _, _, by omega, by go_num, HS8, HU8⟩
        case measure => first | omega | (simp [RowKit.intOf]; done) | (simp [RowKit.intOf]; omega)
      · refine runT rfl (fun K hK => ?_)
        go_simp
        go_at_call 38
        refine (unpack_any x _ HFX.out.1 HFX.out.2).mono ?_
        rintro r w7 ⟨rfl, hb7⟩
        (try go_wp2_with fail)
        have HS7 := Lib.hid (HS6.out.later hb7)
        clear hb7 HCC HS6 e0 e1 e2 e3
        have HCC := Lib.hid HS7.out.c
        obtain ⟨e0, e1, e2, e3⟩ : _ ∧ _ ∧ _ ∧ _ := ⟨HCC.out.at' 0 _ rfl, HCC.out.at' 1 _ rfl, HCC.out.at' 2 _ rfl, HCC.out.at' 3 _ rfl⟩
        refine hK.out _ _ ⟨e0, e1, e2, e3⟩ (fun _ => ?_)
        (try simp only [Act.put, List.setIfInBounds_toArray, List.set_cons_zero, List.set_cons_succ])
        clear hK K
        repeat (refine seqT_take (v := ?_) rfl ?_ ?_ ?_; rotate_left 1; rfl; (focus (intro wS hSw; obtain ⟨x0, x1, x2, x3⟩ := hSw; go_simp; first | done | with_reducible rfl)); (try simp only [Act.put, List.setIfInBounds_toArray, List.set_cons_zero, List.set_cons_succ]))
        refine runT rfl (fun K hK => ?_)
        have cs : w7.cell? ⟨g1, q, none⟩ = some (.int .i64 xq) := by rw [← HXQ.out]; exact HS7.out.at (v := q) (by rw [HXL.out]; exact HQL.out)
        go_simp
        clear cs
        refine hK.out _ _ ⟨e0, e1, e2, e3⟩ (fun _ => ?_)
        (try simp only [Act.put, List.setIfInBounds_toArray, List.set_cons_zero, List.set_cons_succ])
        clear hK K
        repeat (refine seqT_take (v := ?_) rfl ?_ ?_ ?_; rotate_left 1; rfl; (focus (intro wS hSw; obtain ⟨x0, x1, x2, x3⟩ := hSw; go_simp; first | done | with_reducible rfl)); (try simp only [Act.put, List.setIfInBounds_toArray, List.set_cons_zero, List.set_cons_succ]))
        refine runT rfl (fun K hK => ?_)
        have fs := HS7.out.s.fz q
        have cs : w7.cell? ⟨g1, q, none⟩ = some (.int .i64 xq) := by rw [← HXQ.out]; exact HS7.out.at (v := q) (by rw [HXL.out]; exact HQL.out)
        go_simp
        have hwr : IntKind.i64.wrap (xq + x / 8 % 8192) = xq + x / 8 % 8192 := IntWalk.i64_in _ (by omega)
        rw [hwr]
        obtain ⟨l8, hs8⟩ := HS7.out.set q (xq + x / 8 % 8192)
        have HS8 := Lib.hid hs8
        clear hwr cs fs hs8 HCC HS7 e0 e1 e2 e3
        have HCC := Lib.hid HS8.out.c
        obtain ⟨e0, e1, e2, e3⟩ : _ ∧ _ ∧ _ ∧ _ := ⟨HCC.out.at' 0 _ rfl, HCC.out.at' 1 _ rfl, HCC.out.at' 2 _ rfl, HCC.out.at' 3 _ rfl⟩
        refine hK.out _ _ ⟨e0, e1, e2, e3⟩ (fun _ => ?_)
        (try simp only [Act.put, List.setIfInBounds_toArray, List.set_cons_zero, List.set_cons_succ])
        clear hK K
        refine seqT_done ?_
        have HU8 : Hid (Sums T sn Y.C (i + 1) [] (X.set q (xq + x / 8 % 8192))) := Lib.hid (by
          have h := HWD.out
          rw [HXQ.out, HX.out] at h
          exact h)
        clear HCC e0 e1 e2 e3 HWD cX
        go_wp2_with fail
        go_roundw
        case rel => exact ⟨i + 1, _, _, by omega, by go_num, HS8, HU8⟩
        case measure => first | omega | (simp [RowKit.intOf]; done) | (simp [RowKit.intOf]; omega)
    · obtain rfl : i = N := by omega
      have hnn : ¬ (i : Int) < (i : Int) := by omega
      clear HDS HXS HFT HLAY
      go_wp2_with fail
      refine (HS.out.yd.deeds (by omega)).mono ?_
      rintro r w6 ⟨v6, rfl, hrow6, hb6⟩
      obtain ⟨A6, cp6, rfl⟩ := own_shape hrow6
      have HS6 := Lib.hid (HS.out.more (C := tRow W.heap.size 39 11 (.slice A6 Y.ds.length cp6) Y.ds.length (flatD Y.ds)) hb6 (tRow_ok _ _ _ _ _ _) (row_base hrow6 HS.out.yd.h.size) (fun q hq => (hrow6.lt q hq).1))
      have HFI := Lib.hid (fun d hd => HS.out.yd.ok.fitT (d := d) (by show T ≤ 1000; omega) (by omega) hd)
      have hdl : Y.ds.length ≤ 300 := by have := HS.out.yd.ok.nds; have := HS.out.yd.ok.most; omega
      have hcap6 := own_cap hrow6
      have HU6 : Hid (Sums T sn Y.C i (Y.ds.take 0) X) := Lib.hid HU.out
      clear hrow6 hb6 HS HU hnn hi
      obtain ⟨n, hn⟩ : ∃ n, Y.ds.length = n := ⟨_, rfl⟩
      rw [hn] at HS6 hdl hcap6 ⊢
      have HN := Lib.hid hn
      clear hn
      generalize lr ++ [tRow W.heap.size 39 11 (.slice A6 n cp6) n (flatD Y.ds)] = l6 at HS6
      go_wp2_with fail
      go_loopw [58] (fun jv wr => ∃ (j : Nat) (l : List Thing) (X : List Int), j ≤ n ∧ jv = .int .i64 j ∧ Hid (SumAt W wr l ⟨yb, ytb, p, c, T, sn, so, 1, T⟩ i Y J m cb g1 X (tRow W.heap.size 39 11 (.slice A6 n cp6) n (flatD Y.ds))) ∧ Hid (Sums T sn Y.C i (Y.ds.take j) X)) (fun jv _ => n - (RowKit.intOf jv).toNat)
      case atStart => exact ⟨0, _, _, Nat.zero_le _, rfl, HS6, HU6⟩
      case round =>
        clear HS6 HU6
        obtain ⟨j, lj, X, hj, rfl, HS, HU⟩ := hrel
        rcases Nat.lt_or_ge j n with hjl | hjl
        · have hjl' : (j : Int) < (n : Int) := by omega
          obtain ⟨d, hd⟩ : ∃ d, Y.ds[j]? = some d := ⟨_, List.getElem?_eq_getElem (by rw [HN.out]; exact hjl)⟩
          have hra := HS.out.a
          rw [← HN.out] at hra
          obtain ⟨tb, hD⟩ := dds_row hra HFI.out
          obtain ⟨rfl, htb, hat⟩ := hD.one0 hd
          obtain ⟨d0, d1, d2, d3, d4, d5, d6, d7, d8, d9, d10⟩ := hat
          obtain ⟨wn, hwn, hwT⟩ := HWH.out j d hd
          rw [hwn] at d0
          have HWN := Lib.hid hwn
          have HD := Lib.hid hd
          have HSO := Lib.hid (fun o => HS.out.later (below_new (Below.refl wr.heap.size wr) o))
          have hgl : g1 < wr.heap.size := HS.out.s.lt
          clear hd hra hD hwn
          by_cases hk : d.kd = 0
          case neg =>
            have hkb : (d.kd == 0) = false := beq_false_of_ne hk
            have HUN := Lib.hid (HU.out.keep HD.out (.inr hk))
            clear hk
            go_wp2_with fail
            go_roundw
            case rel => exact ⟨j + 1, _, X, by omega, by go_num, Lib.hid (HSO.out _), HUN⟩
            case measure => first | omega | (simp [RowKit.intOf]; done) | (simp [RowKit.intOf]; omega)
          case pos =>
          have hkb : (d.kd == 0) = true := by rw [hk]; rfl
          have HK := Lib.hid hk
          clear hk
          obtain ⟨ok, hok⟩ : ∃ ok, d.ok = ok := ⟨_, rfl⟩
          rw [hok] at d7
          have HOK := Lib.hid hok
          clear hok
          cases ok
          case false =>
            have HUN := Lib.hid (HU.out.keep HD.out (.inl HOK.out))
            go_wp2_with fail
            go_roundw
            case rel => exact ⟨j + 1, _, X, by omega, by go_num, Lib.hid (HSO.out _), HUN⟩
            case measure => first | omega | (simp [RowKit.intOf]; done) | (simp [RowKit.intOf]; omega)
          case true =>
          have hin := Sums.in _ _ _ _ _ _ HU.out (by omega) (by rw [List.length_take]; omega) wn hwT
          have HUN := Lib.hid (HU.out.deed HD.out HOK.out HK.out HWN.out hwT)
          have cs := HS.out.at (v := wn) (by rw [HU.out.1]; exact hwT)
          have fs := HS.out.s.fz wn
          obtain ⟨xq, hxq⟩ : ∃ y, X.getD wn 0 = y := ⟨_, rfl⟩
          rw [hxq] at hin cs HUN
          have hwr : IntKind.i64.wrap (xq - 1) = xq - 1 := IntWalk.i64_in _ (by omega)
          clear hxq
          go_wp2_with fail
          obtain ⟨l8, hs8⟩ := HS.out.set wn (xq - 1)
          go_roundw
          case rel => exact ⟨j + 1, l8, X.set wn (xq - 1), by omega, by go_num, Lib.hid (hs8.later (below_new (Below.refl _ _) _)), HUN⟩
          case measure => first | omega | (simp [RowKit.intOf]; done) | (simp [RowKit.intOf]; omega)
        · obtain rfl : j = n := by omega
          have hnn : ¬ (j : Int) < (j : Int) := by omega
          have HZ : Hid (X.length = T ∧ ∀ v, v < T → X.getD v 0 = 0) := Lib.hid ⟨HU.out.1, fun v hv => by
            have h := HU.out.2 v hv
            rw [List.take_of_length_le (by rw [HN.out]; exact Nat.le_refl _), HGE.out v] at h
            omega⟩
          clear HU hnn HWH HFI
          go_wp2_with fail
          go_loopw [81] (fun kv wr => ∃ k : Nat, k ≤ T ∧ kv = .int .i64 k ∧ Hid (SumAt W wr lj ⟨yb, ytb, p, c, T, sn, so, 1, T⟩ i Y J m cb g1 X (tRow W.heap.size 39 11 (.slice A6 j cp6) j (flatD Y.ds)))) (fun kv _ => T - (RowKit.intOf kv).toNat)
          case atStart => exact ⟨0, Nat.zero_le _, rfl, HS⟩
          case round =>
            clear HS
            obtain ⟨k, hk, rfl, HS⟩ := hrel
            rcases Nat.lt_or_ge k T with hkl | hkl
            · have hkl' : (k : Int) < (T : Int) := by omega
              have cs := HS.out.at (v := k) (by rw [HZ.out.1]; exact hkl)
              rw [HZ.out.2 k hkl] at cs
              go_wp2_with fail
              go_roundw
              case rel => exact ⟨k + 1, by omega, by go_num, HS⟩
              case measure => first | omega | (simp [RowKit.intOf]; done) | (simp [RowKit.intOf]; omega)
            · obtain rfl : k = T := by omega
              have hnn : ¬ (k : Int) < (k : Int) := by omega
              go_wp2_with fail
              go_ret
              exact ⟨rfl, below_step HB2.out HS.out.yd.h.below⟩
end Go.Proofs.YtpfjommkjkbonabGreat
