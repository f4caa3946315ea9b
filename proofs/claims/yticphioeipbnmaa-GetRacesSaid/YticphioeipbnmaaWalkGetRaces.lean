/-
  GetRaces answers true for all lists and numbers, and leaves all memory that was there as it was. No condition.
-/
import Derived.Test.YticphioeipbnmaaGetRace
import Derived.Deep.DeepCutAuto
namespace Go.Proofs.Yticphioeipbnmaa
open Go.RowKit
set_option linter.unusedVariables false

theorem elem_ge : ElemAt Try.prog 73 31 (.pointer none) 1 8 := ElemAt.mk' Try.underlying73 (by kernel_rfl) rfl (by decide)
/-- Ints as they came in. -/
def IsInts11 (w : World) (a0 : Option Addr) (len cap b off : Nat) (X : Nat → Int) : Prop :=
  ∀ i, i < len → a0 = some ⟨b, off, none⟩ ∧ len ≤ cap ∧ b < w.heap.size ∧ w.cell? ⟨b, off + i, none⟩ = some (i64 (X i))
theorem rows_ints11 {w : World} {a0 : Option Addr} {len cap : Nat} (h : IsRows w [.inl .i64] a0 len cap) : ∃ b off, ∃ X : Nat → Int, IsInts11 w a0 len cap b off X := by
  obtain ⟨h1, h2, h3, h4, h5⟩ := h
  rcases Nat.eq_zero_or_pos len with h0 | hl
  · exact ⟨0, 0, fun _ => 0, fun i hi => by omega⟩
  obtain ⟨b, off, rfl⟩ := h4 hl
  have hx : ∀ i, ∃ x : Int, i < len → w.cell? ⟨b, off + i, none⟩ = some (i64 x) := by
    intro i
    by_cases hi : i < len
    · obtain ⟨cs, hf, hc⟩ := h5 b off rfl i hi
      obtain ⟨c0, l0, rfl, r0, f0⟩ := fit_cons hf
      obtain ⟨x0, rfl, _⟩ := r0
      have := hc 0 _ rfl
      simp only [List.length_cons, List.length_nil, Nat.zero_add, Nat.mul_one, Nat.add_zero] at this
      exact ⟨x0, fun _ => this⟩
    · exact ⟨0, fun h => absurd h hi⟩
  obtain ⟨X, hX⟩ := Classical.axiomOfChoice hx
  exact ⟨b, off, X, fun i hi => ⟨rfl, h1, World.block_lt_of_cell? w _ (hX i hi), hX i hi⟩⟩
theorem IsInts11.later {w w' : World} {a : Option Addr} {len cap tb off B : Nat} {X : Nat → Int} (h : IsInts11 w a len cap tb off X) (e : Below B w w') (hB : ∀ i, i < len → tb < B) : IsInts11 w' a len cap tb off X := fun i hi => by
  obtain ⟨h1, h2, h3, h4⟩ := h i hi
  have h5 := (e.cell (p := ⟨tb, off + i, none⟩) (hB i hi)).trans h4
  exact ⟨h1, h2, World.block_lt_of_cell? w' _ h5, h5⟩

theorem thC_value {X : Nat → Th} {N M : Nat} (hM : 2 * N ≤ M) : ∀ (e j : Nat), e ≤ N → j < e → (thC X N (List.replicate M 0) e).getD (N + j) 0 = (X j).value
  | 0, j, _, h => by omega
  | e + 1, j, he, hj => by
    by_cases h : j = e
    · subst h
      exact getD_set_eq' _ (by rw [List.length_set, thC_len, List.length_replicate]; omega)
    · rw [thC, getD_set_ne' _ (by omega), getD_set_ne' _ (by omega)]
      exact thC_value hM e j (by omega) (by omega)
theorem thC_none {X : Nat → Th} {N M : Nat} : ∀ (e j : Nat), e ≤ j → j < N → (thC X N (List.replicate M 0) e).getD j 0 = 0
  | 0, j, _, _ => gzeros _ _
  | e + 1, j, he, hj => by
    rw [thC, getD_set_ne' _ (by omega), getD_set_ne' _ (by omega)]
    exact thC_none e j (by omega) hj
theorem IsObj.row {w : World} {base g n : Nat} {e : TypeId} {xs : List Value} (h : w.ownsRow base e 1 (.slice (some ⟨g, 0, none⟩) n n) n xs) (hl : xs.length = n) : IsObj w g xs :=
  ⟨fun j x hj => by rw [h.cellAt j (by have := (List.getElem?_eq_some_iff.1 hj).1; omega)]; exact hj, fun o => h.frozenAt o, (h.lt g rfl).2⟩

theorem made_ge (n : Nat) : (madeCells (Value.pointer none).cells (n * 1)).toList = List.replicate n (Value.pointer none) := by
  rw [Nat.mul_one]
  exact toList_madeCells_one (.pointer none) n
theorem Hold.nos {W w : World} {l : List Thing} (h : Hold W w l) : ∀ T : Nat, Hold W w (l ++ List.replicate T tNo)
  | 0 => by rw [List.replicate_zero, List.append_nil]; exact h
  | T + 1 => by
    rw [List.replicate_succ', ← List.append_assoc]
    exact Hold.more (Hold.nos h T) (Below.refl _ _) (tNo_ok _) trivial (fun q hq => hq.elim)
theorem RH.made {W w : World} {p c mb gb fb wb ab rb g0 T : Nat} {v : Value} {C : List Int} {L : List Ev} {Z R : Thing} (h : Hold W w [tMem W.heap.size p c v C L, tObj W.heap.size mb [pt p], Z, R, tRow W.heap.size 39 1 (.slice (some ⟨g0, 0, none⟩) 0 0) 0 [], tObj W.heap.size gb [.slice (some ⟨g0, 0, none⟩) 0 0], tObj W.heap.size fb [.int .i64 0], tObj W.heap.size rb (List.replicate T (.pointer none)), tObj W.heap.size wb [.slice (some ⟨rb, 0, none⟩) T T], tObj W.heap.size ab [.int .i64 0]]) :
    RH W w p c C L mb gb fb wb ab rb Z (.slice (some ⟨g0, 0, none⟩) 0 0) [] 0 0 (List.replicate T none) := by
  have h1 := Hold.nos h T
  refine ⟨v, ?_⟩
  rw [List.length_replicate, List.map_replicate, List.map_replicate]
  refine h1.sel (fun i => if i = 2 then 5 else if i = 3 then 4 else if i = 4 then 6 else if i = 5 then 8 else if i = 6 then 9 else if i = 8 then 2 else if 9 ≤ i then i + 1 else i) (fun i A hA => ?_) (fun i j hi hj e => ?_)
  · rcases i with _ | _ | _ | _ | _ | _ | _ | _ | _ | i
    · exact hA
    · exact hA
    · exact hA
    · exact hA
    · exact hA
    · exact hA
    · exact hA
    · exact hA
    · exact hA
    · rw [if_neg (by omega), if_neg (by omega), if_neg (by omega), if_neg (by omega), if_neg (by omega), if_neg (by omega), if_pos (by omega)]
      exact hA
  · clear hi hj h1 h
    repeat' split at e
    all_goals omega

theorem had_get {had : List Nat} {f : Nat → Int} {q : Nat} (h : q < had.length) : (had.map f).getD q 0 = f (had.getD q 0) := by
  rw [List.getD_eq_getElem?_getD, List.getElem?_map, List.getD_eq_getElem?_getD, List.getElem?_eq_getElem h]
  rfl
theorem had_mem {had : List Nat} {q : Nat} (h : q < had.length) : had.getD q 0 ∈ had := by
  rw [List.getD_eq_getElem?_getD, List.getElem?_eq_getElem h]
  exact List.getElem_mem h
theorem nodup_getD {had : List Nat} (h : had.Nodup) {q e : Nat} (hq : q < e) (he : e < had.length) : had.getD q 0 ≠ had.getD e 0 := by
  have h1 := List.pairwise_iff_getElem.1 h q e (by omega) he hq
  rw [List.getD_eq_getElem?_getD, List.getD_eq_getElem?_getD, List.getElem?_eq_getElem he, List.getElem?_eq_getElem (by omega)]
  exact h1
theorem all_at {w : World} {base g n cap : Nat} {S0 : List Nat} {f : Nat → Int} (h : w.ownsRow base 39 1 (.slice (some ⟨g, 0, none⟩) n cap) n ((S0.take n).map (fun j => Value.int .u64 (f j)))) {q : Nat} (hq : q < n) (hn : n ≤ S0.length) : w.cell? ⟨g, q, none⟩ = some (.int .u64 (f (S0.getD q 0))) := by
  rw [h.cellAt q (by omega), List.getElem?_map, List.getElem?_take, if_pos hq, List.getD_eq_getElem?_getD, List.getElem?_eq_getElem (by omega)]
  rfl

set_option maxRecDepth 100000 in
set_option maxHeartbeats 8000000 in
theorem walk_GetRaces (a0 : Int) (a1 : Int) (a2 : Option Addr) (len2 cap2 : Nat) (a3 : Option Addr) (len3 cap3 : Nat) (a4 : Option Addr) (len4 cap4 : Nat) (w : World) (w0 : (Lit.int .i64 a0).wf = true) (w1 : (Lit.int .i64 a1).wf = true) (w2 : IsRows w [.inl .i64, .inl .i64, .inl .i64, .inl .i64, .inr true, .inl .u64] a2 len2 cap2) (w3 : IsRows w [.inr true] a3 len3 cap3) (w4 : IsRows w [.inl .i64] a4 len4 cap4) :
    Calls Try.prog 5 #[.int .i64 a0, .int .i64 a1, .slice a2 len2 cap2, .slice a3 len3 cap3, .slice a4 len4 cap4] w fun e w' => e = .returned (.bool true) ∧ Below w.heap.size w w' := by
  clear w0 w1
  obtain ⟨tb, off, X, hX⟩ := rows_things w2
  have HX : Hid (IsThs w a2 len2 cap2 tb off X) := hX
  obtain ⟨eb3, eoff, XE, hE⟩ := rows_bools w3
  have HE : Hid (IsBools w a3 len3 cap3 eb3 eoff XE) := hE
  obtain ⟨pb, poff, XP, hP⟩ := rows_ints11 w4
  have HP : Hid (IsInts11 w a4 len4 cap4 pb poff XP) := hP
  clear w2 w3 w4 hX hE hP
  have hcB : (w.alloc (.cells #[.slice a3 len3 cap3] 68)).cell? ⟨w.heap.size, 0, none⟩ = some (.slice a3 len3 cap3) := World.cell?_alloc_new w _ _ 0
  have hbB := below_new (Below.refl w.heap.size w) (.cells #[.slice a3 len3 cap3] 68)
  have HCB := Lib.hid hcB
  have HBB := Lib.hid hbB
  clear hcB hbB
  go_enter Try.func5, Try.ntmps5
  go_wp2_with fail
  refine (head11_any _).mono ?_
  rintro e w1 ⟨rfl, hb1⟩
  have hex := (hb1.cell (p := ⟨w.heap.size, 0, none⟩) (World.block_lt_of_cell? _ _ HCB.out)).trans HCB.out
  replace hb1 := below_step HBB.out hb1
  clear HCB HBB
  rcases Nat.lt_or_ge 64 len2 with hbig | hs2
  · have hbig' : (64 : Int) < (len2 : Int) := by omega
    go_wp2_with fail
    go_ret
    exact ⟨rfl, hb1⟩
  have p2 : decide ((64 : Int) < (len2 : Int)) = false := decide_eq_false (by omega)
  rcases Nat.lt_or_ge 300 len4 with hbig | hs4
  · have hbig' : (300 : Int) < (len4 : Int) := by omega
    go_wp2_with fail
    go_ret
    exact ⟨rfl, hb1⟩
  have p4 : decide ((300 : Int) < (len4 : Int)) = false := decide_eq_false (by omega)
  rcases Nat.lt_or_ge 30 len3 with hbig | hs3
  · have hbig' : (30 : Int) < (len3 : Int) := by omega
    go_wp2_with fail
    go_ret
    exact ⟨rfl, hb1⟩
  have p3 : decide ((30 : Int) < (len3 : Int)) = false := decide_eq_false (by omega)
  go_wp2_with fail
  clear p2 p3 p4
  refine (conf2_any _ _ _).mono ?_
  rintro e w2 ⟨t, s, rfl, t1, t2, s1, s2, hb2⟩
  replace hex := (hb2.cell (p := ⟨w.heap.size, 0, none⟩) (World.block_lt_of_cell? _ _ hex)).trans hex
  have ht0 : (t == 0) = false := by simp; omega
  have hB2 := Lib.hid (below_step hb1 hb2)
  clear hb1 hb2
  obtain ⟨N, hNe, hlay, hN1, hN2⟩ := lay44 t1 t2 s1 s2
  have hn0 : ¬ N = 0 := by omega
  clear hNe
  have hA := AtC.made w2 t s 0 0
  have hB3 := below_new (Below.refl w2.heap.size w2) (.cells #[.int .i64 t, .int .i64 s, .int .i64 0, .int .i64 0] 27)
  have hs3' : w2.heap.size < (w2.alloc (.cells #[.int .i64 t, .int .i64 s, .int .i64 0, .int .i64 0] 27)).heap.size := by simp
  have HA := Lib.hid hA
  have HB := Lib.hid (below_step hB2.out hB3)
  have Hs := Lib.hid hs3'
  have HEX := Lib.hid ((hB3.cell (p := ⟨w.heap.size, 0, none⟩) (World.block_lt_of_cell? _ _ hex)).trans hex)
  clear hA hB3 hs3' hB2 hex
  go_wp2_with fail
  generalize w2.alloc (.cells #[.int .i64 t, .int .i64 s, .int .i64 0, .int .i64 0] 27) = W at HA HB Hs HEX ⊢
  generalize w2.heap.size = cb at HA Hs ⊢
  clear w2 w1
  obtain ⟨eb, heb⟩ : ∃ eb, w.heap.size = eb := ⟨_, rfl⟩
  rw [heb] at HEX ⊢
  have Heb := Lib.hid heb
  clear heb
  obtain ⟨M, hM⟩ : ∃ M : Nat, 2 * (N : Int) + 2 * t = (M : Int) := ⟨(2 * (N : Int) + 2 * t).toNat, by omega⟩
  have HM := Lib.hid hM
  clear hM
  have HW0 := Lib.hid (Below.refl W.heap.size W)
  have HD0 : Hid (∀ i, i < 0 → (i < N → (X i).value ≠ 0) ∧ ∀ k, k < i → (X k).value ≠ (X i).value) := fun i hi => by omega
  go_loopw [54] (fun vi wr => ∃ e : Nat, e ≤ len2 ∧ vi = .int .i64 e ∧ Hid (Below W.heap.size W wr) ∧ Hid (∀ i, i < e → (i < N → (X i).value ≠ 0) ∧ ∀ k, k < i → (X k).value ≠ (X i).value)) (fun vi _ => len2 - (intOf vi).toNat)
  case atStart => exact ⟨0, by omega, rfl, HW0, HD0⟩
  case round =>
    clear HW0 HD0
    obtain ⟨e, he, rfl, HW, HD⟩ := hrel
    rcases Nat.lt_or_ge e len2 with heN | heN
    · have heN' : (e : Int) < (len2 : Int) := by omega
      obtain ⟨q0, q1, q2, q3⟩ := HA.out.later HW.out Hs.out
      go_wp2_with fail
      refine (call_any t s 0 0 N _ hlay).mono ?_
      rintro r w5 ⟨rfl, hb⟩
      replace HW := Lib.hid (below_step HW.out hb)
      clear hb q0 q1 q2 q3
      obtain ⟨ha2, hcap2, htb, hx0, hx1, hx2, hx3, hx4, hx5, hx6, hx7⟩ := (HX.out.later (below_step' HB.out HW.out HB.out.size) (fun i hi => (HX.out i hi).2.2.1)) e heN
      subst ha2
      clear hx0 hx1 hx2 hx3 hx4
      obtain ⟨ye, hye⟩ : ∃ y, (X e).value = y := ⟨_, rfl⟩
      have HYE := Lib.hid hye
      rw [hye] at hx5 hx6 hx7
      clear hye
      rcases Nat.lt_or_ge e N with hen | hen
      · have hen' : (e : Int) < (N : Int) := by omega
        by_cases hy0 : ye = 0
        · subst hy0
          go_wp2_with fail
          go_ret
          exact ⟨rfl, below_step' HB.out HW.out HB.out.size⟩
        · have hy0' : (ye == 0) = false := by simp [hy0]
          have HZ : Hid (e < N → (X e).value ≠ 0) := fun _ => by rw [HYE.out]; exact hy0
          clear hy0
          as_aux_lemma =>
            go_wp2_with fail
            have HQ0 : Hid (∀ k, k < 0 → (X k).value ≠ ye) := fun k hk => by omega
            have HX5 := Lib.hid hx5
            have HW5 := Lib.hid (Below.refl w5.heap.size w5)
            clear hx5
            go_loopw [70] (fun vk wr => ∃ q : Nat, q ≤ e ∧ vk = .int .i64 q ∧ Hid (Below w5.heap.size w5 wr) ∧ Hid (∀ k, k < q → (X k).value ≠ ye)) (fun vk _ => e - (intOf vk).toNat)
            case atStart => exact ⟨0, by omega, rfl, HW5, HQ0⟩
            case round =>
              clear HQ0 HW5
              obtain ⟨q, hq, rfl, HW5, HQ⟩ := hrel
              rcases Nat.lt_or_ge q e with hqe | hqe
              · have hqe' : (q : Int) < (e : Int) := by omega
                have hql : (q : Int) < (len2 : Int) := by omega
                obtain ⟨_, _, _, _, _, _, _, _, hz5, hz6, hz7⟩ := (HX.out.later (below_step' HB.out (below_step HW.out HW5.out) HB.out.size) (fun i hi => (HX.out i hi).2.2.1)) q (by omega)
                obtain ⟨yq, hyq⟩ : ∃ y, (X q).value = y := ⟨_, rfl⟩
                have HYQ := Lib.hid hyq
                rw [hyq] at hz5 hz6 hz7
                clear hyq
                have hx5 := (HW5.out.cell (p := ⟨tb, off + e * 6 + 5, none⟩) (World.block_lt_of_cell? _ _ HX5.out)).trans HX5.out
                by_cases hyy : yq = ye
                · have hyy' : (yq == ye) = true := by simp [hyy]
                  clear hyy
                  go_wp2_with fail
                  refine wp_region_seq ((0, true) :: (1, true) :: (2, true) :: (3, true) :: (4, true) :: (5, true) :: (6, true) :: (7, true) :: (8, true) :: (9, true) :: (10, true) :: []) (by kernel_rfl) (by kernel_rfl) (by kernel_rfl) (by decide) (fun _ _ _ _ _ h => h) (fun hHeld => ?_)
                  repeat (first
                    | (refine seq_take (v := ?_) rfl ?_ ?_ ?_; rotate_left 1; rfl; (focus (intro wS hSw; have hk := below_rule hSw; go_simp; first | done | with_reducible rfl)); (try simp only [Act.put, List.setIfInBounds_toArray, List.set_cons_zero, List.set_cons_succ]))
                    | (refine seq_skip rfl ?_ ?_; rfl; (try simp only [Act.put, List.setIfInBounds_toArray, List.set_cons_zero, List.set_cons_succ]))
                    | (refine seq_run rfl (fun K hK => ?_); go_simp; (try skip); (try go_wp2_with fail); refine hK.out _ _ ?_ ?_; (focus (first | exact below_step hHeld hb' | exact below_new hHeld _ | exact hHeld)); (try clear hb'); clear hHeld hK K; intro hHeld; (try simp only [Act.put, List.setIfInBounds_toArray, List.set_cons_zero, List.set_cons_succ])))
                  first | refine seq_done ?_ | skip
                  have hbf := Lib.hid (below_step HW5.out hHeld)
                  clear hHeld hx5 hz5
                  go_wp2_with fail
                  go_ret
                  exact ⟨rfl, below_step' HB.out (below_step HW.out hbf.out) HB.out.size⟩
                · have hyy' : (yq == ye) = false := by simp [hyy]
                  have HNE : Hid ((X q).value ≠ ye) := by show _ ≠ _; rw [HYQ.out]; exact hyy
                  clear hyy
                  go_wp2_with fail
                  refine wp_region_seq ((0, true) :: (1, true) :: (2, true) :: (3, true) :: (4, true) :: (5, true) :: (6, true) :: (7, true) :: (8, true) :: (9, true) :: (10, true) :: []) (by kernel_rfl) (by kernel_rfl) (by kernel_rfl) (by decide) (fun _ _ _ _ _ h => h) (fun hHeld => ?_)
                  repeat (first
                    | (refine seq_take (v := ?_) rfl ?_ ?_ ?_; rotate_left 1; rfl; (focus (intro wS hSw; have hk := below_rule hSw; go_simp; first | done | with_reducible rfl)); (try simp only [Act.put, List.setIfInBounds_toArray, List.set_cons_zero, List.set_cons_succ]))
                    | (refine seq_skip rfl ?_ ?_; rfl; (try simp only [Act.put, List.setIfInBounds_toArray, List.set_cons_zero, List.set_cons_succ]))
                    | (refine seq_run rfl (fun K hK => ?_); go_simp; (try skip); (try go_wp2_with fail); refine hK.out _ _ ?_ ?_; (focus (first | exact below_step hHeld hb' | exact below_new hHeld _ | exact hHeld)); (try clear hb'); clear hHeld hK K; intro hHeld; (try simp only [Act.put, List.setIfInBounds_toArray, List.set_cons_zero, List.set_cons_succ])))
                  first | refine seq_done ?_ | skip
                  replace HW5 := Lib.hid (below_step HW5.out hHeld)
                  clear hHeld hx5 hz5
                  go_wp2_with fail
                  go_roundw
                  case rel => exact ⟨q + 1, by omega, by go_num, HW5, fun k hk => by
                    rcases (by omega : k = q ∨ k < q) with rfl | h
                    · exact HNE.out
                    · exact HQ.out k h⟩
                  case measure => first | omega | (simp [intOf]; done) | (simp [intOf]; omega)
              · have hqe' : ¬ (q : Int) < (e : Int) := by omega
                obtain rfl : q = e := by omega
                go_wp2_with fail
                go_roundw
                case rel => exact ⟨q + 1, by omega, by go_num, below_step HW.out HW5.out, fun i hi => by
                  rcases (by omega : i = q ∨ i < q) with rfl | h
                  · exact ⟨HZ.out, fun k hk => by rw [HYE.out]; exact HQ.out k hk⟩
                  · exact HD.out i h⟩
                case measure => first | omega | (simp [intOf]; done) | (simp [intOf]; omega)
      · have hen' : ¬ (e : Int) < (N : Int) := by omega
        have HZ : Hid (e < N → (X e).value ≠ 0) := fun h => by omega
        as_aux_lemma =>
          go_wp2_with fail
          have HQ0 : Hid (∀ k, k < 0 → (X k).value ≠ ye) := fun k hk => by omega
          have HX5 := Lib.hid hx5
          have HW5 := Lib.hid (Below.refl w5.heap.size w5)
          clear hx5
          go_loopw [70] (fun vk wr => ∃ q : Nat, q ≤ e ∧ vk = .int .i64 q ∧ Hid (Below w5.heap.size w5 wr) ∧ Hid (∀ k, k < q → (X k).value ≠ ye)) (fun vk _ => e - (intOf vk).toNat)
          case atStart => exact ⟨0, by omega, rfl, HW5, HQ0⟩
          case round =>
            clear HQ0 HW5
            obtain ⟨q, hq, rfl, HW5, HQ⟩ := hrel
            rcases Nat.lt_or_ge q e with hqe | hqe
            · have hqe' : (q : Int) < (e : Int) := by omega
              have hql : (q : Int) < (len2 : Int) := by omega
              obtain ⟨_, _, _, _, _, _, _, _, hz5, hz6, hz7⟩ := (HX.out.later (below_step' HB.out (below_step HW.out HW5.out) HB.out.size) (fun i hi => (HX.out i hi).2.2.1)) q (by omega)
              obtain ⟨yq, hyq⟩ : ∃ y, (X q).value = y := ⟨_, rfl⟩
              have HYQ := Lib.hid hyq
              rw [hyq] at hz5 hz6 hz7
              clear hyq
              have hx5 := (HW5.out.cell (p := ⟨tb, off + e * 6 + 5, none⟩) (World.block_lt_of_cell? _ _ HX5.out)).trans HX5.out
              by_cases hyy : yq = ye
              · have hyy' : (yq == ye) = true := by simp [hyy]
                clear hyy
                go_wp2_with fail
                refine wp_region_seq ((0, true) :: (1, true) :: (2, true) :: (3, true) :: (4, true) :: (5, true) :: (6, true) :: (7, true) :: (8, true) :: (9, true) :: (10, true) :: []) (by kernel_rfl) (by kernel_rfl) (by kernel_rfl) (by decide) (fun _ _ _ _ _ h => h) (fun hHeld => ?_)
                repeat (first
                  | (refine seq_take (v := ?_) rfl ?_ ?_ ?_; rotate_left 1; rfl; (focus (intro wS hSw; have hk := below_rule hSw; go_simp; first | done | with_reducible rfl)); (try simp only [Act.put, List.setIfInBounds_toArray, List.set_cons_zero, List.set_cons_succ]))
                  | (refine seq_skip rfl ?_ ?_; rfl; (try simp only [Act.put, List.setIfInBounds_toArray, List.set_cons_zero, List.set_cons_succ]))
                  | (refine seq_run rfl (fun K hK => ?_); go_simp; (try skip); (try go_wp2_with fail); refine hK.out _ _ ?_ ?_; (focus (first | exact below_step hHeld hb' | exact below_new hHeld _ | exact hHeld)); (try clear hb'); clear hHeld hK K; intro hHeld; (try simp only [Act.put, List.setIfInBounds_toArray, List.set_cons_zero, List.set_cons_succ])))
                first | refine seq_done ?_ | skip
                have hbf := Lib.hid (below_step HW5.out hHeld)
                clear hHeld hx5 hz5
                go_wp2_with fail
                go_ret
                exact ⟨rfl, below_step' HB.out (below_step HW.out hbf.out) HB.out.size⟩
              · have hyy' : (yq == ye) = false := by simp [hyy]
                have HNE : Hid ((X q).value ≠ ye) := by show _ ≠ _; rw [HYQ.out]; exact hyy
                clear hyy
                go_wp2_with fail
                refine wp_region_seq ((0, true) :: (1, true) :: (2, true) :: (3, true) :: (4, true) :: (5, true) :: (6, true) :: (7, true) :: (8, true) :: (9, true) :: (10, true) :: []) (by kernel_rfl) (by kernel_rfl) (by kernel_rfl) (by decide) (fun _ _ _ _ _ h => h) (fun hHeld => ?_)
                repeat (first
                  | (refine seq_take (v := ?_) rfl ?_ ?_ ?_; rotate_left 1; rfl; (focus (intro wS hSw; have hk := below_rule hSw; go_simp; first | done | with_reducible rfl)); (try simp only [Act.put, List.setIfInBounds_toArray, List.set_cons_zero, List.set_cons_succ]))
                  | (refine seq_skip rfl ?_ ?_; rfl; (try simp only [Act.put, List.setIfInBounds_toArray, List.set_cons_zero, List.set_cons_succ]))
                  | (refine seq_run rfl (fun K hK => ?_); go_simp; (try skip); (try go_wp2_with fail); refine hK.out _ _ ?_ ?_; (focus (first | exact below_step hHeld hb' | exact below_new hHeld _ | exact hHeld)); (try clear hb'); clear hHeld hK K; intro hHeld; (try simp only [Act.put, List.setIfInBounds_toArray, List.set_cons_zero, List.set_cons_succ])))
                first | refine seq_done ?_ | skip
                replace HW5 := Lib.hid (below_step HW5.out hHeld)
                clear hHeld hx5 hz5
                go_wp2_with fail
                go_roundw
                case rel => exact ⟨q + 1, by omega, by go_num, HW5, fun k hk => by
                  rcases (by omega : k = q ∨ k < q) with rfl | h
                  · exact HNE.out
                  · exact HQ.out k h⟩
                case measure => first | omega | (simp [intOf]; done) | (simp [intOf]; omega)
            · have hqe' : ¬ (q : Int) < (e : Int) := by omega
              obtain rfl : q = e := by omega
              go_wp2_with fail
              go_roundw
              case rel => exact ⟨q + 1, by omega, by go_num, below_step HW.out HW5.out, fun i hi => by
                rcases (by omega : i = q ∨ i < q) with rfl | h
                · exact ⟨HZ.out, fun k hk => by rw [HYE.out]; exact HQ.out k hk⟩
                · exact HD.out i h⟩
              case measure => first | omega | (simp [intOf]; done) | (simp [intOf]; omega)
    · have heN' : ¬ (e : Int) < (len2 : Int) := by omega
      have heq : e = len2 := by omega
      rw [heq] at HD
      clear he heN heq
      have HDA : Hid (∀ i, i < len2 → (i < N → (X i).value ≠ 0) ∧ ∀ k, k < i → (X k).value ≠ (X i).value) := HD
      clear HD
      obtain ⟨q0, q1, q2, q3⟩ := HA.out.later HW.out Hs.out
      go_wp2_with fail
      refine (things_any W.heap.size t s 0 0 N M HM.out a2 len2 cap2 tb off X _ hlay HW.out.size (HX.out.later (below_step' HB.out HW.out HB.out.size) (fun i hi => (HX.out i hi).2.2.1))).mono ?_
      rintro r w3 ⟨p, c, v0, rfl, hM3, hb3, hf3⟩
      have HH1 : Hid (Hold W w3 [tMem W.heap.size p c v0 (thC X N (List.replicate M 0) (min N len2)) (thL X N (List.replicate M 0) (min N len2))]) := (Hold.nil HW.out).more hb3 (tMem_ok _ _ _ _ _ _) hM3 hf3
      have hinj : ∀ i j, i < N → j < N → Lv (thC X N (List.replicate M 0) (min N len2)) i → Lv (thC X N (List.replicate M 0) (min N len2)) j → (thC X N (List.replicate M 0) (min N len2)).getD (N + i) 0 = (thC X N (List.replicate M 0) (min N len2)).getD (N + j) 0 → i = j := by
        have hlo : ∀ i, i < N → Lv (thC X N (List.replicate M 0) (min N len2)) i → i < min N len2 := fun i hi hl => by
          rcases Nat.lt_or_ge i (min N len2) with h | h
          · exact h
          · exfalso
            have h2 : (thC X N (List.replicate M 0) (min N len2)).getD i 0 % 4 = 1 := hl
            rw [thC_none _ i h hi] at h2
            omega
        have hM2 : 2 * N ≤ M := by have := HM.out; omega
        intro i j hi hj li lj e
        have h1 := hlo i hi li
        have h2 := hlo j hj lj
        rw [thC_value hM2 _ i (Nat.min_le_left _ _) h1, thC_value hM2 _ j (Nat.min_le_left _ _) h2] at e
        rcases Nat.lt_trichotomy i j with h | h | h
        · exact absurd e ((HDA.out j (by omega)).2 i h)
        · exact h
        · exact absurd e.symm ((HDA.out i (by omega)).2 j h)
      clear hM3 hb3 hf3 q0 q1 q2 q3 HDA HX
      obtain ⟨C0, hC0⟩ : ∃ C0, thC X N (List.replicate M 0) (min N len2) = C0 := ⟨_, rfl⟩
      obtain ⟨L0, hL0⟩ : ∃ L0, thL X N (List.replicate M 0) (min N len2) = L0 := ⟨_, rfl⟩
      have HCL : Hid ((C0.length : Int) = 2 * N + 2 * t) := by show _ = _; rw [← hC0, thC_len, List.length_replicate]; exact HM.out.symm
      have HLL : Hid (L0.length ≤ 100 + 0) := by show _ ≤ _; rw [← hL0, thL_len]; omega
      rw [hC0, hL0] at HH1
      have HC0F := Lib.hid (take_fit (Hold.first HH1.out).fit N)
      rw [hC0] at hinj
      have HINJ := Lib.hid hinj
      clear hC0 hL0 hinj
      obtain ⟨ws, hws⟩ : ∃ ws, C0.take N = ws := ⟨_, rfl⟩
      have Hws := Lib.hid hws
      have Hwl : Hid (ws.length = N) := by show _ = _; rw [← hws, List.length_take]; have := HCL.out; omega
      clear hws HC0F
      have HH2 : Hid (Hold W (w3.alloc (.cells #[pt p] 29)) [tMem W.heap.size p c v0 C0 L0, tObj W.heap.size w3.heap.size [pt p]]) := Hold.more HH1.out (below_new (Below.refl _ _) _) (tObj_ok _ _ _) ⟨IsObj.made w3 [pt p] 29, HH1.out.size⟩ (fun q hq => by cases hq; exact Nat.le_refl _)
      have HH3 : Hid (Hold W ((w3.alloc (.cells #[pt p] 29)).alloc (.cells #[] 39)) [tMem W.heap.size p c v0 C0 L0, tObj W.heap.size w3.heap.size [pt p], tRow W.heap.size 39 1 (.slice (some ⟨(w3.alloc (.cells #[pt p] 29)).heap.size, 0, none⟩) 0 0) 0 []]) := Hold.more HH2.out (below_new (Below.refl _ _) _) (tRow_ok _ _ _ _ _ _) (tRow_made _ _ 39 1 HH2.out.size) tRow_new
      have hsz1 : (w3.alloc (.cells #[pt p] 29)).heap.size = w3.heap.size + 1 := by simp
      clear HH1 HH2
      obtain ⟨q0, q1, q2, q3⟩ := HA.out.later HH3.out.below Hs.out
      have hmb := (Hold.has HH3.out 1 _ rfl : (tObj W.heap.size w3.heap.size [pt p]).P _).1.at' 0 _ rfl
      go_wp2_with fail
      rw [hsz1] at HH3
      generalize (w3.alloc (.cells #[pt p] 29)).alloc (.cells #[] 39) = wy at HH3 ⊢
      generalize w3.heap.size + 1 = g0 at HH3 ⊢
      generalize w3.heap.size = mb at HH3 ⊢
      clear q0 q1 q2 q3 hsz1 hmb
      refine (words_at W.heap.size t s 0 0 N p c v0 C0 ws L0 _ hlay HH3.out.first (by have := HCL.out; omega) Hws.out Hwl.out).mono ?_
      rintro r w4 ⟨g, cap, rfl, hcap, hg1, hg2, hrow, hWW, hb4⟩
      have HW1 := Lib.hid hWW
      replace HH3 := Lib.hid (Hold.later HH3.out hb4)
      clear hb4 hrow hg1 hg2 hWW
      go_wp2_with fail
      refine (row_at0 _ _ cap N ws Hwl.out HW1.out (by omega)).mono ?_
      rintro r w5 ⟨rb, rc, S0, rfl, hord, hown, hb5⟩
      have HORD : Hid (IsOrder (C0.take N) S0) := by show _; rw [Hws.out]; exact hord
      have HH4 : Hid (Hold W w5 [tMem W.heap.size p c v0 C0 L0, tObj W.heap.size mb [pt p], tRow W.heap.size 39 1 (.slice (some ⟨g0, 0, none⟩) 0 0) 0 [], tRow W.heap.size 3 1 (.slice rb S0.length rc) S0.length (S0.map (fun i : Nat => i64 (i : Int)))]) := Hold.more HH3.out hb5 (tRow_ok _ _ _ _ _ _) (row_base hown HH3.out.size) (fun q hq => (hown.lt q hq).1)
      have hg0 : g0 < w5.heap.size := ((Hold.has HH4.out 2 _ rfl : World.ownsRow _ _ _ _ _ _ _).lt g0 rfl).2
      have hl16 : S0.length ≤ 16 := by have := HORD.out.len; rw [List.length_take] at this; omega
      obtain ⟨l0, hl0⟩ : ∃ l, S0.length = l := ⟨_, rfl⟩
      have Hl0 := Lib.hid hl0
      rw [hl0] at hl16
      clear hb5 HW1 hord hown HH3 hl0 Hws Hwl hcap
      rw [Hl0.out]
      have HSL : Hid (∀ q, q < l0 → S0.getD q 0 < N ∧ Lv C0 (S0.getD q 0)) := fun q hq => by
        have hq' : q < S0.length := by have := Hl0.out; omega
        have h1 : S0.getD q 0 = S0[q] := by rw [List.getD_eq_getElem?_getD, List.getElem?_eq_getElem hq']; rfl
        have h2 := (HORD.out.mem S0[q]).1 (List.getElem_mem hq')
        rw [h1]
        have h3 : S0[q] < N := by have := h2.1; rw [List.length_take] at this; omega
        refine ⟨h3, ?_⟩
        have h4 : (C0.take N).getD S0[q] 0 % 4 = 1 := h2.2
        rw [getD_take h3] at h4
        exact h4
      go_wp2_with fail
      go_loopw [15, 95] (fun va vi wr => ∃ (e g1 cap1 : Nat), e ≤ l0 ∧ vi = .int .i64 e ∧ va = .slice (some ⟨g1, 0, none⟩) e cap1 ∧ e ≤ cap1 ∧ g1 < wr.heap.size ∧ Hid (Hold W wr [tMem W.heap.size p c v0 C0 L0, tObj W.heap.size mb [pt p], tRow W.heap.size 39 1 va e ((S0.take e).map (fun j => Value.int .u64 (C0.getD (N + j) 0))), tRow W.heap.size 3 1 (.slice rb S0.length rc) S0.length (S0.map (fun i : Nat => i64 (i : Int)))])) (fun _ vi _ => l0 - (intOf vi).toNat)
      case atStart => exact ⟨0, g0, 0, by omega, rfl, rfl, Nat.le_refl _, hg0, HH4⟩
      case round =>
        clear HH4 hg0
        obtain ⟨e, g1, cap1, he, rfl, rfl, hcap1, hg1, HH⟩ := hrel
        rcases Nat.lt_or_ge e l0 with heN | heN
        · have heN' : (e : Int) < (l0 : Int) := by omega
          as_aux_lemma =>
            obtain ⟨gr, hgr, hci⟩ := ints_at (Hold.has HH.out 3 _ rfl) (by have := Hl0.out; omega)
            subst hgr
            have hc0 := hci e (by have := Hl0.out; omega)
            obtain ⟨hjN, hjl⟩ := HSL.out e heN
            obtain ⟨j, hj⟩ : ∃ j, S0.getD e 0 = j := ⟨_, rfl⟩
            rw [hj] at hc0 hjN
            have HJ := Lib.hid hj
            obtain ⟨y, hy⟩ : ∃ y, C0.getD (N + j) 0 = y := ⟨_, rfl⟩
            have HPV : Hid (C0[N + j]? = some y) := by
              have h1 := getD_at (C := C0) (i := N + j) (by have := HCL.out; omega)
              show _ = _
              rw [h1, hy]
            have HY := Lib.hid hy
            have hmb := (Hold.has HH.out 1 _ rfl : (tObj W.heap.size mb [pt p]).P wr).1.at' 0 _ rfl
            have HEQ : Hid ((S0.take e).map (fun j => Value.int .u64 (C0.getD (N + j) 0)) ++ [.int .u64 y] = (S0.take (e + 1)).map (fun j => Value.int .u64 (C0.getD (N + j) 0))) := by
              have hlt : e < S0.length := by have := Hl0.out; omega
              have h1 : S0[e] = j := by rw [← hj, List.getD_eq_getElem?_getD, List.getElem?_eq_getElem hlt]; rfl
              show _ = _
              rw [List.take_add_one, List.getElem?_eq_getElem hlt, h1, List.map_append, ← hy]
              rfl
            clear hci hj hjl hy
            have hjN' : (0 : Int) ≤ (j : Int) ∧ (j : Int) ≤ (N : Int) := by omega
            have HJ9 := Lib.hid hjN'
            clear hjN'
            go_wp2_with fail
            refine wp_region_seqS ((fun w' => AtC w' cb t s 0 0 ∧ w'.cell? ⟨mb, 0, none⟩ = some (pt p))) ((0, true) :: (1, true) :: (2, true) :: (3, true) :: (4, false) :: (5, false) :: (6, false) :: (7, false) :: (8, true) :: []) (by kernel_rfl) (by kernel_rfl) (by kernel_rfl) (by decide) (fun _ _ _ _ _ h => h) (⟨HA.out.later (Hold.below (Hold.drew HH.out)) Hs.out, hmb⟩) ?_
            replace HH := Lib.hid (Hold.drew HH.out)
            clear hc0 hmb
            repeat (first | (refine seq_take (v := ?_) rfl ?_ ?_ ?_; rotate_left 1; rfl; (focus (intro wS hSw; obtain ⟨⟨k0, k1, k2, k3⟩, d0⟩ := hSw; go_simp; first | done | with_reducible rfl)); (try simp only [Act.put, List.setIfInBounds_toArray, List.set_cons_zero, List.set_cons_succ])) | (refine seq_skip rfl ?_ ?_; rfl; (try simp only [Act.put, List.setIfInBounds_toArray, List.set_cons_zero, List.set_cons_succ])))
            refine seq_run rfl (fun K hK => ?_)
            go_simp
            go_at_call 18
            refine (gvalue_at t s 0 0 N j (N + j) _ hlay HJ9.out.1 HJ9.out.2 (by omega)).mono ?_
            rintro r wa ⟨rfl, hb⟩
            (try go_wp2_with fail)
            replace HH := Lib.hid (Hold.later HH.out hb)
            clear hb
            refine hK.out _ _ (⟨HA.out.later (Hold.below HH.out) Hs.out, (Hold.has HH.out 1 _ rfl : (tObj W.heap.size mb [pt p]).P _).1.at' 0 _ rfl⟩) (fun _ => ?_)
            (try simp only [Act.put, List.setIfInBounds_toArray, List.set_cons_zero, List.set_cons_succ])
            clear hK K
            repeat (first | (refine seq_take (v := ?_) rfl ?_ ?_ ?_; rotate_left 1; rfl; (focus (intro wS hSw; obtain ⟨⟨k0, k1, k2, k3⟩, d0⟩ := hSw; go_simp; first | done | with_reducible rfl)); (try simp only [Act.put, List.setIfInBounds_toArray, List.set_cons_zero, List.set_cons_succ])) | (refine seq_skip rfl ?_ ?_; rfl; (try simp only [Act.put, List.setIfInBounds_toArray, List.set_cons_zero, List.set_cons_succ])))
            refine seq_run rfl (fun K hK => ?_)
            go_simp
            go_at_call 33
            refine (quiet_below (peek_in W.heap.size _ p c _ _ _ (N + j) y HH.out.first HPV.out)).mono ?_
            rintro r wb ⟨rfl, hb⟩
            (try go_wp2_with fail)
            replace HH := Lib.hid (Hold.later HH.out hb)
            clear hb
            refine hK.out _ _ (⟨HA.out.later (Hold.below HH.out) Hs.out, (Hold.has HH.out 1 _ rfl : (tObj W.heap.size mb [pt p]).P _).1.at' 0 _ rfl⟩) (fun _ => ?_)
            (try simp only [Act.put, List.setIfInBounds_toArray, List.set_cons_zero, List.set_cons_succ])
            clear hK K
            refine seq_run rfl (fun K hK => ?_)
            go_simp
            have hb := below_new (Below.refl wb.heap.size wb) (.cells #[.int .u64 y] 39)
            have hsr := src_list wb [.int .u64 y] 39 1 1 rfl (one_int _ _)
            replace HH := Lib.hid (Hold.later HH.out hb)
            have HSR := Lib.hid hsr
            clear hb hsr
            generalize wb.alloc (.cells #[.int .u64 y] 39) = wd at HH HSR ⊢
            generalize wb.heap.size = sb at HSR ⊢
            refine hK.out _ _ (⟨HA.out.later (Hold.below HH.out) Hs.out, (Hold.has HH.out 1 _ rfl : (tObj W.heap.size mb [pt p]).P _).1.at' 0 _ rfl⟩) (fun _ => ?_)
            (try simp only [Act.put, List.setIfInBounds_toArray, List.set_cons_zero, List.set_cons_succ])
            clear hK K
            refine seq_run rfl (fun K hK => ?_)
            refine step_append_grew rfl _ _ 56 rfl W.heap.size 39 _ 1 8 elem_u64 (.slice (some ⟨g1, 0, none⟩) e cap1) e ((S0.take e).map (fun j => Value.int .u64 (C0.getD (N + j) 0))) rfl (Hold.has HH.out 2 _ rfl) (some ⟨sb, 0, none⟩) 1 1 [.int .u64 y] rfl HSR.out (by unfold maxLen; omega) (by omega) HH.out.size ?_
            intro gv2 we hG
            rw [HEQ.out] at hG
            have HH9 := Lib.hid (Hold.append HH.out 2 rfl rfl hG)
            clear hG HSR HH
            obtain ⟨g9, cp9, rfl, hc9, hg9⟩ := row_shape (Hold.has HH9.out 2 _ rfl) (Nat.succ_pos e)
            refine hK.out _ _ (⟨HA.out.later (Hold.below HH9.out) Hs.out, (Hold.has HH9.out 1 _ rfl : (tObj W.heap.size mb [pt p]).P _).1.at' 0 _ rfl⟩) (fun _ => ?_)
            (try simp only [Act.put, List.setIfInBounds_toArray, List.set_cons_zero, List.set_cons_succ])
            clear hK K
            repeat (first | (refine seq_take (v := ?_) rfl ?_ ?_ ?_; rotate_left 1; rfl; (focus (intro wS hSw; obtain ⟨⟨k0, k1, k2, k3⟩, d0⟩ := hSw; go_simp; first | done | with_reducible rfl)); (try simp only [Act.put, List.setIfInBounds_toArray, List.set_cons_zero, List.set_cons_succ])) | (refine seq_skip rfl ?_ ?_; rfl; (try simp only [Act.put, List.setIfInBounds_toArray, List.set_cons_zero, List.set_cons_succ])))
            refine seq_done ?_
            go_wp2_with fail
            go_roundw
            case rel => exact ⟨e + 1, g9, cp9, by omega, by go_num, rfl, hc9, hg9, HH9⟩
            case measure => first | omega | (simp [intOf]; done) | (simp [intOf]; omega)
        · have heN' : ¬ (e : Int) < (l0 : Int) := by omega
          obtain rfl : e = l0 := by omega
          clear he heN hcap1
          go_upto_region 27 with fail
          have hsA : (wr.alloc (.cells #[] 39)).heap.size = wr.heap.size + 1 := by simp
          have hsB : ((wr.alloc (.cells #[] 39)).alloc (.cells #[.slice (some ⟨wr.heap.size, 0, none⟩) 0 0] 56)).heap.size = wr.heap.size + 1 + 1 := by simp
          have K1 := Hold.more HH.out (below_new (Below.refl _ _) (.cells #[] 39)) (tRow_ok _ _ _ _ _ _) (tRow_made wr W.heap.size 39 1 HH.out.size) tRow_new
          have K2 := Hold.more K1 (below_new (Below.refl _ _) (.cells #[.slice (some ⟨wr.heap.size, 0, none⟩) 0 0] 56)) (tObj_ok W.heap.size (wr.alloc (.cells #[] 39)).heap.size [.slice (some ⟨wr.heap.size, 0, none⟩) 0 0]) ⟨IsObj.made _ _ _, K1.size⟩ (fun q hq => by cases hq; exact Nat.le_refl _)
          have K3 := Hold.more K2 (below_new (Below.refl _ _) (.cells #[.int .i64 0] 3)) (tObj_ok W.heap.size ((wr.alloc (.cells #[] 39)).alloc (.cells #[.slice (some ⟨wr.heap.size, 0, none⟩) 0 0] 56)).heap.size [.int .i64 0]) ⟨IsObj.made _ _ _, K2.size⟩ (fun q hq => by cases hq; exact Nat.le_refl _)
          rw [hsA, hsB] at K3
          clear K1 K2 hsA hsB HH
          have HH : Hid (Hold W (((wr.alloc (.cells #[] 39)).alloc (.cells #[.slice (some ⟨wr.heap.size, 0, none⟩) 0 0] 56)).alloc (.cells #[.int .i64 0] 3)) [tMem W.heap.size p c v0 C0 L0, tObj W.heap.size mb [pt p], tRow W.heap.size 39 1 (.slice (some ⟨g1, 0, none⟩) e cap1) e ((S0.take e).map (fun j => Value.int .u64 (C0.getD (N + j) 0))), tRow W.heap.size 3 1 (.slice rb S0.length rc) S0.length (S0.map (fun i : Nat => i64 (i : Int))), tRow W.heap.size 39 1 (.slice (some ⟨wr.heap.size, 0, none⟩) 0 0) 0 [], tObj W.heap.size (wr.heap.size + 1) [.slice (some ⟨wr.heap.size, 0, none⟩) 0 0], tObj W.heap.size (wr.heap.size + 1 + 1) [.int .i64 0]]) := K3
          clear K3
          generalize (((wr.alloc (.cells #[] 39)).alloc (.cells #[.slice (some ⟨wr.heap.size, 0, none⟩) 0 0] 56)).alloc (.cells #[.int .i64 0] 3)) = wz at HH ⊢
          generalize wr.heap.size + 1 + 1 = fb at HH ⊢
          generalize wr.heap.size + 1 = gb at HH ⊢
          generalize wr.heap.size = g00 at HH ⊢
          obtain ⟨T, hT⟩ : ∃ T : Nat, (T : Int) = t := ⟨t.toNat, by omega⟩
          have HTT := Lib.hid hT
          have hT4 : T ≤ 4 := by omega
          obtain ⟨ik, hk1, hk2, hk3, hk4⟩ := elem_ge.info
          obtain ⟨q0, q1, q2, q3⟩ := HA.out.later HH.out.below Hs.out
          go_wp2_with (at_make; refine wpList_make_full _ rfl _ _ 73 rfl W.heap.size 31 ik (.pointer none) 1 elem_ge.und hk1 hk2 hk3 .i64 .i64 _ _ T rfl rfl HTT.out.symm HTT.out.symm (by rw [hk4]; omega) (by unfold maxLen; omega) HH.out.size ?_; intro w9 hown hg; rw [made_ge] at hown; have HK4 := Lib.hid (Hold.more HH.out ((Below.refl _ _).grown hg (Nat.le_refl _) (fun k hk => by cases hk)) (tObj_ok W.heap.size wz.heap.size (List.replicate T (.pointer none))) ⟨IsObj.row hown List.length_replicate, HH.out.size⟩ (fun q hq => by cases hq; exact Nat.le_refl _)); clear hown hg q0 q1 q2 q3)
          generalize wz.heap.size = rb at HK4 ⊢
          have hsC : (w9.alloc (.cells #[.slice (some ⟨rb, 0, none⟩) T T] 73)).heap.size = w9.heap.size + 1 := by simp
          have K5 := Hold.more HK4.out (below_new (Below.refl _ _) (.cells #[.slice (some ⟨rb, 0, none⟩) T T] 73)) (tObj_ok W.heap.size w9.heap.size [.slice (some ⟨rb, 0, none⟩) T T]) ⟨IsObj.made _ _ _, HK4.out.size⟩ (fun q hq => by cases hq; exact Nat.le_refl _)
          have K6 := Hold.more K5 (below_new (Below.refl _ _) (.cells #[.int .i64 0] 3)) (tObj_ok W.heap.size (w9.alloc (.cells #[.slice (some ⟨rb, 0, none⟩) T T] 73)).heap.size [.int .i64 0]) ⟨IsObj.made _ _ _, K5.size⟩ (fun q hq => by cases hq; exact Nat.le_refl _)
          rw [hsC] at K6
          clear K5 hsC HH HK4 hk1 hk2 hk3 hk4 hT
          have HR0 : Hid (RH W ((w9.alloc (.cells #[.slice (some ⟨rb, 0, none⟩) T T] 73)).alloc (.cells #[.int .i64 0] 3)) p c C0 L0 mb gb fb w9.heap.size (w9.heap.size + 1) rb (tRow W.heap.size 39 1 (.slice (some ⟨g1, 0, none⟩) e cap1) e ((S0.take e).map (fun j => Value.int .u64 (C0.getD (N + j) 0)))) (.slice (some ⟨g00, 0, none⟩) 0 0) [] 0 0 (List.replicate T none)) := RH.made K6
          clear K6
          obtain ⟨ZZ, hZZ⟩ : ∃ Z : Thing, tRow W.heap.size 39 1 (.slice (some ⟨g1, 0, none⟩) e cap1) e ((S0.take e).map (fun j => Value.int .u64 (C0.getD (N + j) 0))) = Z := ⟨_, rfl⟩
          rw [hZZ] at HR0
          have HZZ := Lib.hid hZZ
          clear hZZ
          generalize ((w9.alloc (.cells #[.slice (some ⟨rb, 0, none⟩) T T] 73)).alloc (.cells #[.int .i64 0] 3)) = w6 at HR0 ⊢
          generalize w9.heap.size + 1 = ab at HR0 ⊢
          generalize w9.heap.size = wb at HR0 ⊢
          have HG0 : Hid (GRace (wKs (List.replicate T none)) C0 C0 N T [] 0 0 0) := by
            have h : wKs (List.replicate T none) = List.replicate T none := by unfold wKs; rw [List.map_replicate]; rfl
            show GRace _ _ _ _ _ _ _ _ _
            rw [h]
            exact GRace.start HTT.out
          have HGL0 : Hid (([] : List Int) = ([] : List Nat).map (fun j => C0.getD (N + j) 0)) := rfl
          have HL0 : Hid (L0.length ≤ 100 + 0) := HLL.out
          have HQ0 : Hid ((0 : Nat) ≤ 0 ∧ (0 : Nat) ≤ 0 ∧ ([] : List Int).length ≤ 0) := ⟨Nat.le_refl _, Nat.le_refl _, Nat.le_refl _⟩
          have HV : Hid (∀ j, 0 ≤ C0.getD j 0 ∧ C0.getD j 0 ≤ 18446744073709551615) := HR0.out.fit
          have hTN : ¬ t = 0 := by omega
          go_loopw [115] (fun vi wr => ∃ (n : Nat) (C : List Int) (L : List Ev) (gv : Value) (gl : List Int) (fu aq : Nat) (Ws : List (Option WG)) (had : List Nat), n ≤ len4 ∧ vi = .int .i64 n ∧ Hid (RH W wr p c C L mb gb fb wb ab rb ZZ gv gl fu aq Ws) ∧ Hid (GRace (wKs Ws) C C0 N T had fu aq n) ∧ Hid (gl = had.map (fun j => C0.getD (N + j) 0)) ∧ Hid (L.length ≤ 100 + n) ∧ Hid (aq ≤ n ∧ fu ≤ n ∧ gl.length ≤ n)) (fun vi _ => len4 - (intOf vi).toNat)
          case atStart => exact ⟨0, C0, L0, _, [], 0, 0, _, [], by omega, rfl, HR0, HG0, HGL0, HL0, HQ0⟩
          case round =>
            clear HR0 HG0 HGL0 HL0 HQ0
            obtain ⟨n, C, L, gv, gl, fu, aq, Ws, had, hn, rfl, HR, HG, HGL, HL, HQ⟩ := hrel
            have HC : Hid ((C.length : Int) = 2 * N + 2 * t) := by show _ = _; rw [HG.out.cells.len]; exact HCL.out
            rcases Nat.lt_or_ge n len4 with hnl | hnl
            · have hnl' : (n : Int) < (len4 : Int) := by omega
              as_aux_lemma =>
                obtain ⟨ha4, hcap4, hpb, hel⟩ := (HP.out.later (below_step' HB.out HR.out.below HB.out.size) (fun i hi => (HP.out i hi).2.2.1)) n hnl
                subst ha4
                generalize XP n = xp at hel
                obtain ⟨u5, hu5, l5, g5⟩ : ∃ u, bits .and .i64 xp 65535 = u ∧ 0 ≤ u ∧ u ≤ 65535 := ⟨_, and_ffff xp, by omega, by omega⟩
                obtain ⟨th, hth, hthT⟩ : ∃ th : Nat, u5.tmod t = (th : Int) ∧ th < T := by
                  have h1 := Int.emod_nonneg u5 hTN
                  have h2 := Int.emod_lt_of_pos u5 (show 0 < t by omega)
                  rw [Int.tmod_eq_emod_of_nonneg l5]
                  exact ⟨(u5 % t).toNat, by omega, by have := HTT.out; omega⟩
                obtain ⟨q0, q1, q2, q3⟩ := HA.out.later HR.out.below Hs.out
                go_wp2_with fail
                (try rw [hth])
                clear hu5 l5 g5 hth hel q0 q1 q2 q3
                refine (rstep_any W _ p c mb gb fb wb ab rb eb cb th N T n ZZ t s C C0 L gv gl fu aq Ws had a3 len3 cap3 eb3 eoff XE hlay hN2 HTT.out hthT HA.out Hs.out HEX.out (HE.out.later HB.out (fun i hi => (HE.out i hi).2.2.1)) HC.out HR.out HG.out HGL.out HV.out (by omega) HL.out HQ.out.2.2 HQ.out.2.1 HQ.out.1).mono ?_
                rintro r w7 ⟨rfl, C', L', gv', gl', fu', aq', Ws', had', g1', g2', g3', g4', g5', g6', g7', g8', g9'⟩
                have HR2 := Lib.hid g1'
                have HG2 := Lib.hid g2'
                have HGL2 := Lib.hid g3'
                have HL2 : Hid (L'.length ≤ 100 + (n + 1)) := by have := HL.out; show _ ≤ _; omega
                have HQ2 : Hid (aq' ≤ n + 1 ∧ fu' ≤ n + 1 ∧ gl'.length ≤ n + 1) := ⟨g7', g8', g9'⟩
                clear g1' g2' g3' g4' g5' g6' g7' g8' g9' HR HG HGL HL HQ HC
                go_wp2_with fail
                go_roundw
                case rel => exact ⟨n + 1, C', L', gv', gl', fu', aq', Ws', had', by omega, by go_num, HR2, HG2, HGL2, HL2, HQ2⟩
                case measure => first | omega | (simp [intOf]; done) | (simp [intOf]; omega)
            · have hnl' : ¬ (n : Int) < (len4 : Int) := by omega
              have hn300 : n ≤ 300 := by omega
              have HWL : Hid (Ws.length = T) := by have := HG.out.len; unfold wKs at this; rw [List.length_map] at this; exact this
              have hwb := HR.out.wbox.at' 0 _ rfl
              rw [HWL.out] at hwb
              have HNN : Hid (n ≤ 300 + 0 * 100) := by show _ ≤ _; omega
              have HN0 : Hid (∀ i, i < 0 → Ws[i]? = some none) := fun i hi => by omega
              go_wp2_with fail
              clear hwb HWL hnl hnl'
              have HFT : Hid (T ≤ 4) := hT4
              go_loopw [129] (fun vi wr => ∃ (e5 n : Nat) (C : List Int) (L : List Ev) (gv : Value) (gl : List Int) (fu aq : Nat) (Ws : List (Option WG)) (had : List Nat), e5 ≤ T ∧ vi = .int .i64 e5 ∧ Hid (n ≤ 300 + e5 * 100) ∧ Hid (RH W wr p c C L mb gb fb wb ab rb ZZ gv gl fu aq Ws) ∧ Hid (GRace (wKs Ws) C C0 N T had fu aq n) ∧ Hid (gl = had.map (fun j => C0.getD (N + j) 0)) ∧ Hid (L.length ≤ 100 + n) ∧ Hid (aq ≤ n ∧ fu ≤ n ∧ gl.length ≤ n) ∧ Hid (∀ i, i < e5 → Ws[i]? = some none)) (fun vi _ => T - (intOf vi).toNat)
              case atStart => exact ⟨0, n, C, L, gv, gl, fu, aq, Ws, had, by omega, rfl, HNN, HR, HG, HGL, HL, HQ, HN0⟩
              case round =>
                clear HNN HN0 HR HG HGL HL HQ HC hn hn300
                obtain ⟨e5, n, C, L, gv, gl, fu, aq, Ws, had, he5, rfl, HNN, HR, HG, HGL, HL, HQ, HNO⟩ := hrel
                have HWL : Hid (Ws.length = T) := by have := HG.out.len; unfold wKs at this; rw [List.length_map] at this; exact this
                rcases Nat.lt_or_ge e5 T with heT | heT
                · have heT' : (e5 : Int) < (T : Int) := by omega
                  as_aux_lemma =>
                    obtain ⟨x5, hx5⟩ : ∃ x5, Ws[e5]? = some x5 := ⟨_, List.getElem?_eq_getElem (by have := HWL.out; omega)⟩
                    have HEN : Hid (Ws[e5]? = some none ∨ ∃ x, Ws[e5]? = some (some x) ∧ Ends N (2 * N + e5) (100 - 0) x.k C) := by
                      cases x5 with
                      | none => exact .inl hx5
                      | some x =>
                        obtain ⟨g1, g2, g3⟩ := HG.out.gets e5 x.k (wKs_at hx5)
                        have := HNN.out
                        exact .inr ⟨x, hx5, g1.ends hN2 (by omega) (by omega)⟩
                    have HM0 : Hid (n ≤ 300 + e5 * 100 + 0) := HNN.out
                    clear hx5 HWL HNN
                    go_wp2_with fail
                    go_loopw [26] (fun vn wr => ∃ (q n : Nat) (C : List Int) (L : List Ev) (gv : Value) (gl : List Int) (fu aq : Nat) (Ws : List (Option WG)) (had : List Nat), q ≤ 100 ∧ vn = .int .i64 q ∧ Hid (n ≤ 300 + e5 * 100 + q) ∧ Hid (RH W wr p c C L mb gb fb wb ab rb ZZ gv gl fu aq Ws) ∧ Hid (GRace (wKs Ws) C C0 N T had fu aq n) ∧ Hid (gl = had.map (fun j => C0.getD (N + j) 0)) ∧ Hid (L.length ≤ 100 + n) ∧ Hid (aq ≤ n ∧ fu ≤ n ∧ gl.length ≤ n) ∧ Hid (∀ i, i < e5 → Ws[i]? = some none) ∧ Hid (Ws[e5]? = some none ∨ ∃ x, Ws[e5]? = some (some x) ∧ Ends N (2 * N + e5) (100 - q) x.k C)) (fun vn _ => 100 - (intOf vn).toNat)
                    case atStart => exact ⟨0, n, C, L, gv, gl, fu, aq, Ws, had, by omega, rfl, HM0, HR, HG, HGL, HL, HQ, HNO, HEN⟩
                    case round =>
                      clear HM0 HR HG HGL HL HQ HNO HEN
                      obtain ⟨q, n, C, L, gv, gl, fu, aq, Ws, had, hq, rfl, HNN, HR, HG, HGL, HL, HQ, HNO, HEN⟩ := hrel
                      have HWL : Hid (Ws.length = T) := by have := HG.out.len; unfold wKs at this; rw [List.length_map] at this; exact this
                      have HC : Hid ((C.length : Int) = 2 * N + 2 * t) := by show _ = _; rw [HG.out.cells.len]; exact HCL.out
                      have hq4 : (q : Int) < 400 := by omega
                      rcases HEN.out with hx | ⟨x, hx, hend⟩
                      · have hwb := HR.out.wbox.at' 0 _ rfl
                        have hpr := HR.out.ptr hx
                        rw [HWL.out] at hwb
                        replace hpr : wr.cell? ⟨rb, e5, none⟩ = some (.pointer none) := hpr
                        have HXN := Lib.hid hx
                        have hnb : Hid (n ≤ 300 + (e5 + 1) * 100) := by have := HNN.out; show _ ≤ _; omega
                        clear hx HEN
                        go_wp2_with fail
                        go_roundw
                        case rel => exact ⟨e5 + 1, n, C, L, gv, gl, fu, aq, Ws, had, by omega, by go_num, hnb, HR, HG, HGL, HL, HQ, fun i hi => by
                          rcases (by omega : i = e5 ∨ i < e5) with rfl | h
                          · exact HXN.out
                          · exact HNO.out i h⟩
                        case measure => first | omega | (simp [intOf]; done) | (simp [intOf]; omega)
                      · have hwb := HR.out.wbox.at' 0 _ rfl
                        have hpr := HR.out.ptr hx
                        rw [HWL.out] at hwb
                        replace hpr : wr.cell? ⟨rb, e5, none⟩ = some (pt x.b) := hpr
                        have hq99 : q < 100 := by
                          rcases (by omega : q = 100 ∨ q < 100) with h | h
                          · exfalso
                            rw [h] at hend
                            exact hend (HG.out.gets e5 x.k (wKs_at hx)).1.ph
                          · exact h
                        obtain ⟨m, hm⟩ : ∃ m, 100 - q = m + 1 := ⟨99 - q, by omega⟩
                        rw [hm] at hend
                        have HEND := Lib.hid hend
                        have HXS := Lib.hid hx
                        have HMM := Lib.hid hm
                        have hn5 : n < 5000 := by have := HNN.out; omega
                        clear hend hx hm HEN
                        go_wp2_with fail
                        clear hwb hpr
                        refine (rstep_any W _ p c mb gb fb wb ab rb eb cb e5 N T n ZZ t s C C0 L gv gl fu aq Ws had a3 len3 cap3 eb3 eoff XE hlay hN2 HTT.out heT HA.out Hs.out HEX.out (HE.out.later HB.out (fun i hi => (HE.out i hi).2.2.1)) HC.out HR.out HG.out HGL.out HV.out hn5 HL.out HQ.out.2.2 HQ.out.2.1 HQ.out.1).mono ?_
                        rintro r w7 ⟨rfl, C', L', gv', gl', fu', aq', Ws', had', g1', g2', g3', g4', g5', g6', g7', g8', g9'⟩
                        have HR2 := Lib.hid g1'
                        have HG2 := Lib.hid g2'
                        have HGL2 := Lib.hid g3'
                        have HL2 : Hid (L'.length ≤ 100 + (n + 1)) := by have := HL.out; show _ ≤ _; omega
                        have HQ2 : Hid (aq' ≤ n + 1 ∧ fu' ≤ n + 1 ∧ gl'.length ≤ n + 1) := ⟨g7', g8', g9'⟩
                        have HNN2 : Hid (n + 1 ≤ 300 + e5 * 100 + (q + 1)) := by have := HNN.out; show _ ≤ _; omega
                        have HNO2 : Hid (∀ i, i < e5 → Ws'[i]? = some none) := fun i hi => (g5' i (by omega)).trans (HNO.out i hi)
                        have HEN2 : Hid (Ws'[e5]? = some none ∨ ∃ x, Ws'[e5]? = some (some x) ∧ Ends N (2 * N + e5) (100 - (q + 1)) x.k C') := by
                          have hmm : 100 - (q + 1) = m := by have := HMM.out; omega
                          rw [hmm]
                          exact g6' x m HXS.out HEND.out
                        clear g1' g2' g3' g4' g5' g6' g7' g8' g9' HR HG HGL HL HQ HC HNN HNO
                        go_wp2_with fail
                        go_roundw
                        case rel => exact ⟨q + 1, n + 1, C', L', gv', gl', fu', aq', Ws', had', by omega, by go_num, HNN2, HR2, HG2, HGL2, HL2, HQ2, HNO2, HEN2⟩
                        case measure => first | omega | (simp [intOf]; done) | (simp [intOf]; omega)
                · have heT' : ¬ (e5 : Int) < (T : Int) := by omega
                  have HFI : Hid (aq = had.length + fu ∧ had.length ≤ S0.length ∧ (0 < fu → had.length = S0.length) ∧ (∀ j, j ∈ had → j ∈ S0 ∧ j < N ∧ Lv C0 j)) := HG.out.fin (fun i x hx => by
                    have hl := (List.getElem?_eq_some_iff.1 hx).1
                    have h1 : i < T := by have := HG.out.len; omega
                    have h2 := wKs_at (HNO.out i (by omega))
                    rw [hx] at h2
                    cases h2
                    rfl) HORD.out (by have := HCL.out; omega)
                  have HND : Hid had.Nodup := HG.out.nodup
                  have hgh : gl.length = had.length := by rw [HGL.out, List.length_map]
                  obtain ⟨G, hG⟩ : ∃ G, gl.length = G := ⟨_, rfl⟩
                  have HGG := Lib.hid hG
                  obtain ⟨gA, gC, rfl⟩ := own_shape HR.out.grow
                  have hgC : G ≤ gC := by
                    rcases HR.out.grow.2 with ⟨hv, h0⟩ | ⟨g, cap', cur, hv, _, _, hnc, _⟩
                    · omega
                    · cases hv
                      rw [hG] at hnc
                      exact hnc
                  obtain ⟨f1, f2, f3, f4⟩ := HFI.out
                  have hS0e : S0.length = e := Hl0.out
                  have hGe : G ≤ e := by omega
                  have haq : aq = G + fu := by omega
                  have hfz : 0 < fu → G = e := fun h => by have := f3 h; omega
                  have hfu : fu < 6000 := by have := HQ.out.2.1; have := HNN.out; omega
                  have HFU := Lib.hid hfz
                  have hgb := HR.out.gbox.at' 0 _ rfl
                  have hfb := HR.out.fbox.at' 0 _ rfl
                  have hab := HR.out.abox.at' 0 _ rfl
                  rw [hG] at hgb
                  have hnG : ¬ (e : Int) < (G : Int) := by omega
                  have has : (aq : Int) = (G : Int) + (fu : Int) := by omega
                  have hae : ((G : Int) + (fu : Int) != (aq : Int)) = false := by rw [has]; simp
                  clear f1 f2 f3 f4 hfz haq hgh hG heT
                  rcases Nat.eq_zero_or_pos fu with hf0 | hf0
                  · have hfp : ¬ (0 : Int) < (fu : Int) := by omega
                    clear hf0 has
                    as_aux_lemma =>
                      obtain ⟨wF, hwF⟩ : ∃ x : World, x = wr := ⟨_, rfl⟩
                      have HW0 : Hid (Below wF.heap.size wF wr) := hwF ▸ Below.refl _ _
                      have HRF : Hid (RH W wF p c C L mb gb fb wb ab rb ZZ (.slice gA gl.length gC) gl fu aq Ws) := hwF ▸ HR.out
                      clear hwF
                      go_wp2_with fail
                      clear hgb hfb hab hfp hnG hae heT' HR
                      go_loopw [173] (fun vi wq => ∃ e6 : Nat, e6 ≤ G ∧ vi = .int .i64 e6 ∧ Hid (Below wF.heap.size wF wq)) (fun vi _ => G - (intOf vi).toNat)
                      case atStart => exact ⟨0, by omega, rfl, HW0⟩
                      case round =>
                        clear HW0
                        obtain ⟨e6, he6, rfl, HWF⟩ := hrel
                        rcases Nat.lt_or_ge e6 G with hl | hl
                        · have hl' : (e6 : Int) < (G : Int) := by omega
                          obtain ⟨g7, c7, hv7, hc7, hg7⟩ := row_shape HRF.out.grow (by have := HGG.out; omega)
                          cases hv7
                          have hx := row_at (HRF.out.later HWF.out).grow (j := e6) (by have := HGG.out; omega)
                          have hhl : had.length = G := by have h1 := HGG.out; rw [HGL.out, List.length_map] at h1; exact h1
                          obtain ⟨jd, hjd⟩ : ∃ jd, had.getD e6 0 = jd := ⟨_, rfl⟩
                          have hmem : jd ∈ had := by rw [← hjd]; exact had_mem (by omega)
                          obtain ⟨m1, m2, m3⟩ := HFI.out.2.2.2 jd hmem
                          obtain ⟨k0, hk0, hke⟩ := List.getElem_of_mem m1
                          have HK0 : Hid (k0 < e ∧ S0.getD k0 0 = jd) := ⟨by have := Hl0.out; omega, by rw [List.getD_eq_getElem?_getD, List.getElem?_eq_getElem hk0]; exact hke⟩
                          have hyx : gl.getD e6 0 = C0.getD (N + jd) 0 := by rw [HGL.out, had_get (by omega), hjd]
                          obtain ⟨yx, hy⟩ : ∃ y, gl.getD e6 0 = y := ⟨_, rfl⟩
                          rw [hy] at hx hyx
                          have HYX := Lib.hid hyx
                          have HDI : Hid (∀ q, q < e6 → gl.getD q 0 ≠ yx) := fun q hq h => by
                            have h1 := nodup_getD HND.out hq (by omega)
                            have h2 := HFI.out.2.2.2 _ (had_mem (had := had) (q := q) (by omega))
                            rw [HGL.out, had_get (by omega), hyx] at h
                            have h3 := HINJ.out _ _ h2.2.1 m2 h2.2.2 m3 h
                            rw [hjd] at h1
                            exact h1 h3
                          clear hjd hmem m1 m2 m3 hk0 hke hyx hy hc7 hg7
                          go_wp2_with fail
                          have HB0 : Hid (k0 < 0 → false = true) := fun h => by omega
                          have HWX := Lib.hid HWF.out
                          clear hx
                          go_loopw [29, 180] (fun vin vi wq => ∃ (q : Nat) (bb : Bool), q ≤ e ∧ vi = .int .i64 q ∧ vin = .bool bb ∧ Hid (k0 < q → bb = true) ∧ Hid (Below wF.heap.size wF wq)) (fun _ vi _ => e - (intOf vi).toNat)
                          case atStart => exact ⟨0, false, by omega, rfl, rfl, fun h => by omega, HWX⟩
                          case round =>
                            clear HB0 HWX HWF
                            obtain ⟨q, bb, hq, rfl, rfl, HB6, HWF⟩ := hrel
                            rcases Nat.lt_or_ge q e with hqe | hqe
                            · have hqe' : (q : Int) < (e : Int) := by omega
                              have hz := (HRF.out.later HWF.out).extra
                              rw [← HZZ.out] at hz
                              have hzc := all_at (f := fun j => C0.getD (N + j) 0) hz hqe (by have := Hl0.out; omega)
                              obtain ⟨yq, hyq⟩ : ∃ y, C0.getD (N + S0.getD q 0) 0 = y := ⟨_, rfl⟩
                              replace hzc : wr.cell? ⟨g1, q, none⟩ = some (.int .u64 yq) := by rw [← hyq]; exact hzc
                              have HYQ := Lib.hid hyq
                              clear hz hyq
                              cases bb
                              · by_cases hyy : yx = yq
                                · have hyy' : (yx == yq) = true := by simp [hyy]
                                  clear hyy
                                  go_wp2_with fail
                                  go_roundw
                                  case rel => exact ⟨q + 1, true, by omega, by go_num, rfl, fun _ => rfl, HWF⟩
                                  case measure => first | omega | (simp [intOf]; done) | (simp [intOf]; omega)
                                · have hyy' : (yx == yq) = false := by simp [hyy]
                                  have HNY := Lib.hid hyy
                                  clear hyy
                                  go_wp2_with fail
                                  go_roundw
                                  case rel => exact ⟨q + 1, false, by omega, by go_num, rfl, fun h => by
                                    rcases (by omega : k0 = q ∨ k0 < q) with h1 | h1
                                    · exfalso
                                      apply HNY.out
                                      rw [HYX.out, ← HYQ.out, ← h1, HK0.out.2]
                                    · exact HB6.out h1, HWF⟩
                                  case measure => first | omega | (simp [intOf]; done) | (simp [intOf]; omega)
                              · skip
                                go_wp2_with fail
                                go_roundw
                                case rel => exact ⟨q + 1, true, by omega, by go_num, rfl, fun _ => rfl, HWF⟩
                                case measure => first | omega | (simp [intOf]; done) | (simp [intOf]; omega)
                            · have hqe' : ¬ (q : Int) < (e : Int) := by omega
                              obtain rfl : bb = true := HB6.out (by have := HK0.out.1; omega)
                              have hgb := (HRF.out.later HWF.out).gbox.at' 0 _ rfl
                              rw [HGG.out] at hgb
                              have he6C : e6 ≤ gC := by omega
                              have he6C' : (e6 : Int) ≤ (gC : Int) := by omega
                              go_wp2_with fail
                              have HWY := Lib.hid HWF.out
                              clear hgb
                              go_loopw [29, 195] (fun vin vi wq => ∃ q : Nat, q ≤ e6 ∧ vi = .int .i64 q ∧ vin = .bool true ∧ Hid (Below wF.heap.size wF wq)) (fun _ vi _ => e6 - (intOf vi).toNat)
                              case atStart => exact ⟨0, by omega, rfl, rfl, HWY⟩
                              case round =>
                                clear HWY HWF
                                obtain ⟨q9, hq9, rfl, rfl, HWF⟩ := hrel
                                rcases Nat.lt_or_ge q9 e6 with hqd | hqd
                                · have hqd' : (q9 : Int) < (e6 : Int) := by omega
                                  have hx := row_at (HRF.out.later HWF.out).grow (j := q9) (by have := HGG.out; omega)
                                  have hne := HDI.out q9 hqd
                                  obtain ⟨yq, hyq⟩ : ∃ y, gl.getD q9 0 = y := ⟨_, rfl⟩
                                  rw [hyq] at hx hne
                                  have hyy' : (yx != yq) = true := by simp; exact fun h => hne h.symm
                                  clear hyq hne
                                  go_wp2_with fail
                                  go_roundw
                                  case rel => exact ⟨q9 + 1, by omega, by go_num, rfl, HWF⟩
                                  case measure => first | omega | (simp [intOf]; done) | (simp [intOf]; omega)
                                · have hqd' : ¬ (q9 : Int) < (e6 : Int) := by omega
                                  go_wp2_with fail
                                  go_roundw
                                  case rel => exact ⟨e6 + 1, by omega, by go_num, HWF⟩
                                  case measure => first | omega | (simp [intOf]; done) | (simp [intOf]; omega)
                        · have hl' : ¬ (e6 : Int) < (G : Int) := by omega
                          have hbf := Lib.hid (below_step' HB.out (HRF.out.later HWF.out).below HB.out.size)
                          go_wp2_with fail
                          go_ret
                          exact ⟨rfl, hbf.out⟩
                  · have hfp : (0 : Int) < (fu : Int) := by omega
                    have hGq : ((G : Int) != (e : Int)) = false := by have := HFU.out hf0; simp; omega
                    clear hf0 has
                    as_aux_lemma =>
                      obtain ⟨wF, hwF⟩ : ∃ x : World, x = wr := ⟨_, rfl⟩
                      have HW0 : Hid (Below wF.heap.size wF wr) := hwF ▸ Below.refl _ _
                      have HRF : Hid (RH W wF p c C L mb gb fb wb ab rb ZZ (.slice gA gl.length gC) gl fu aq Ws) := hwF ▸ HR.out
                      clear hwF
                      go_wp2_with fail
                      clear hgb hfb hab hfp hnG hae heT' HR
                      go_loopw [173] (fun vi wq => ∃ e6 : Nat, e6 ≤ G ∧ vi = .int .i64 e6 ∧ Hid (Below wF.heap.size wF wq)) (fun vi _ => G - (intOf vi).toNat)
                      case atStart => exact ⟨0, by omega, rfl, HW0⟩
                      case round =>
                        clear HW0
                        obtain ⟨e6, he6, rfl, HWF⟩ := hrel
                        rcases Nat.lt_or_ge e6 G with hl | hl
                        · have hl' : (e6 : Int) < (G : Int) := by omega
                          obtain ⟨g7, c7, hv7, hc7, hg7⟩ := row_shape HRF.out.grow (by have := HGG.out; omega)
                          cases hv7
                          have hx := row_at (HRF.out.later HWF.out).grow (j := e6) (by have := HGG.out; omega)
                          have hhl : had.length = G := by have h1 := HGG.out; rw [HGL.out, List.length_map] at h1; exact h1
                          obtain ⟨jd, hjd⟩ : ∃ jd, had.getD e6 0 = jd := ⟨_, rfl⟩
                          have hmem : jd ∈ had := by rw [← hjd]; exact had_mem (by omega)
                          obtain ⟨m1, m2, m3⟩ := HFI.out.2.2.2 jd hmem
                          obtain ⟨k0, hk0, hke⟩ := List.getElem_of_mem m1
                          have HK0 : Hid (k0 < e ∧ S0.getD k0 0 = jd) := ⟨by have := Hl0.out; omega, by rw [List.getD_eq_getElem?_getD, List.getElem?_eq_getElem hk0]; exact hke⟩
                          have hyx : gl.getD e6 0 = C0.getD (N + jd) 0 := by rw [HGL.out, had_get (by omega), hjd]
                          obtain ⟨yx, hy⟩ : ∃ y, gl.getD e6 0 = y := ⟨_, rfl⟩
                          rw [hy] at hx hyx
                          have HYX := Lib.hid hyx
                          have HDI : Hid (∀ q, q < e6 → gl.getD q 0 ≠ yx) := fun q hq h => by
                            have h1 := nodup_getD HND.out hq (by omega)
                            have h2 := HFI.out.2.2.2 _ (had_mem (had := had) (q := q) (by omega))
                            rw [HGL.out, had_get (by omega), hyx] at h
                            have h3 := HINJ.out _ _ h2.2.1 m2 h2.2.2 m3 h
                            rw [hjd] at h1
                            exact h1 h3
                          clear hjd hmem m1 m2 m3 hk0 hke hyx hy hc7 hg7
                          go_wp2_with fail
                          have HB0 : Hid (k0 < 0 → false = true) := fun h => by omega
                          have HWX := Lib.hid HWF.out
                          clear hx
                          go_loopw [29, 180] (fun vin vi wq => ∃ (q : Nat) (bb : Bool), q ≤ e ∧ vi = .int .i64 q ∧ vin = .bool bb ∧ Hid (k0 < q → bb = true) ∧ Hid (Below wF.heap.size wF wq)) (fun _ vi _ => e - (intOf vi).toNat)
                          case atStart => exact ⟨0, false, by omega, rfl, rfl, fun h => by omega, HWX⟩
                          case round =>
                            clear HB0 HWX HWF
                            obtain ⟨q, bb, hq, rfl, rfl, HB6, HWF⟩ := hrel
                            rcases Nat.lt_or_ge q e with hqe | hqe
                            · have hqe' : (q : Int) < (e : Int) := by omega
                              have hz := (HRF.out.later HWF.out).extra
                              rw [← HZZ.out] at hz
                              have hzc := all_at (f := fun j => C0.getD (N + j) 0) hz hqe (by have := Hl0.out; omega)
                              obtain ⟨yq, hyq⟩ : ∃ y, C0.getD (N + S0.getD q 0) 0 = y := ⟨_, rfl⟩
                              replace hzc : wr.cell? ⟨g1, q, none⟩ = some (.int .u64 yq) := by rw [← hyq]; exact hzc
                              have HYQ := Lib.hid hyq
                              clear hz hyq
                              cases bb
                              · by_cases hyy : yx = yq
                                · have hyy' : (yx == yq) = true := by simp [hyy]
                                  clear hyy
                                  go_wp2_with fail
                                  go_roundw
                                  case rel => exact ⟨q + 1, true, by omega, by go_num, rfl, fun _ => rfl, HWF⟩
                                  case measure => first | omega | (simp [intOf]; done) | (simp [intOf]; omega)
                                · have hyy' : (yx == yq) = false := by simp [hyy]
                                  have HNY := Lib.hid hyy
                                  clear hyy
                                  go_wp2_with fail
                                  go_roundw
                                  case rel => exact ⟨q + 1, false, by omega, by go_num, rfl, fun h => by
                                    rcases (by omega : k0 = q ∨ k0 < q) with h1 | h1
                                    · exfalso
                                      apply HNY.out
                                      rw [HYX.out, ← HYQ.out, ← h1, HK0.out.2]
                                    · exact HB6.out h1, HWF⟩
                                  case measure => first | omega | (simp [intOf]; done) | (simp [intOf]; omega)
                              · skip
                                go_wp2_with fail
                                go_roundw
                                case rel => exact ⟨q + 1, true, by omega, by go_num, rfl, fun _ => rfl, HWF⟩
                                case measure => first | omega | (simp [intOf]; done) | (simp [intOf]; omega)
                            · have hqe' : ¬ (q : Int) < (e : Int) := by omega
                              obtain rfl : bb = true := HB6.out (by have := HK0.out.1; omega)
                              have hgb := (HRF.out.later HWF.out).gbox.at' 0 _ rfl
                              rw [HGG.out] at hgb
                              have he6C : e6 ≤ gC := by omega
                              have he6C' : (e6 : Int) ≤ (gC : Int) := by omega
                              go_wp2_with fail
                              have HWY := Lib.hid HWF.out
                              clear hgb
                              go_loopw [29, 195] (fun vin vi wq => ∃ q : Nat, q ≤ e6 ∧ vi = .int .i64 q ∧ vin = .bool true ∧ Hid (Below wF.heap.size wF wq)) (fun _ vi _ => e6 - (intOf vi).toNat)
                              case atStart => exact ⟨0, by omega, rfl, rfl, HWY⟩
                              case round =>
                                clear HWY HWF
                                obtain ⟨q9, hq9, rfl, rfl, HWF⟩ := hrel
                                rcases Nat.lt_or_ge q9 e6 with hqd | hqd
                                · have hqd' : (q9 : Int) < (e6 : Int) := by omega
                                  have hx := row_at (HRF.out.later HWF.out).grow (j := q9) (by have := HGG.out; omega)
                                  have hne := HDI.out q9 hqd
                                  obtain ⟨yq, hyq⟩ : ∃ y, gl.getD q9 0 = y := ⟨_, rfl⟩
                                  rw [hyq] at hx hne
                                  have hyy' : (yx != yq) = true := by simp; exact fun h => hne h.symm
                                  clear hyq hne
                                  go_wp2_with fail
                                  go_roundw
                                  case rel => exact ⟨q9 + 1, by omega, by go_num, rfl, HWF⟩
                                  case measure => first | omega | (simp [intOf]; done) | (simp [intOf]; omega)
                                · have hqd' : ¬ (q9 : Int) < (e6 : Int) := by omega
                                  go_wp2_with fail
                                  go_roundw
                                  case rel => exact ⟨e6 + 1, by omega, by go_num, HWF⟩
                                  case measure => first | omega | (simp [intOf]; done) | (simp [intOf]; omega)
                        · have hl' : ¬ (e6 : Int) < (G : Int) := by omega
                          have hbf := Lib.hid (below_step' HB.out (HRF.out.later HWF.out).below HB.out.size)
                          go_wp2_with fail
                          go_ret
                          exact ⟨rfl, hbf.out⟩

end Go.Proofs.Yticphioeipbnmaa
