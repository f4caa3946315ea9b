/-
  CodeJoins answers true for all lists, and leaves all memory that was there as it was. No condition.
-/
import Derived.Test.YtpfjommkjkbonaaCodeHead
import Derived.Test.YtpfjommkjkbonaaCodeCut
namespace Go.Proofs.Ytpfjommkjkbonaa
open Go.RowKit
set_option linter.unusedVariables false

theorem vcells {w : World} {b : Nat} {v : LM} (h : IsObj w b v.list) : w.cell? ⟨b, 0, none⟩ = some (i64 v.kind) ∧ w.cell? ⟨b, 1, none⟩ = some (i64 v.who) ∧ w.cell? ⟨b, 2, none⟩ = some (i64 v.n) ∧ w.cell? ⟨b, 3, none⟩ = some (i64 v.start) ∧ w.cell? ⟨b, 4, none⟩ = some (.bool v.take) ∧ w.cell? ⟨b, 5, none⟩ = some (.bool v.right) ∧ w.cell? ⟨b, 6, none⟩ = some (u64 v.value) ∧ w.cell? ⟨b, 7, none⟩ = some (i64 v.odd) :=
  ⟨h.at' 0 _ rfl, h.at' 1 _ rfl, h.at' 2 _ rfl, h.at' 3 _ rfl, h.at' 4 _ rfl, h.at' 5 _ rfl, h.at' 6 _ rfl, h.at' 7 _ rfl⟩
theorem grew_belowJ {w W w4 : World} {v v' : Value} {e : TypeId} {sz n m : Nat} {xs ys : List Value} (hb : Below w.heap.size w W) (ho : W.ownsRow w.heap.size e sz v m ys) (hG : Grew W w4 w.heap.size e sz v v' n xs) : Below w.heap.size w w4 :=
  below_keep hb (Keep.of_grown (T := fun k => w.heap.size ≤ k) hG.grown (fun k hk => (ho.lt k hk).1)) hb.size (fun i hi => hi)
theorem isat_drop4 {w : World} {A : Option Addr} {l : List Int} (h : IsAt w A (l.map u8)) : IsAt w (Option.map (fun x : Addr => (⟨x.block, x.off + 4, none⟩ : Addr)) A) ((l.drop 4).map u8) := fun hp => by
  rw [List.length_map, List.length_drop] at hp
  obtain ⟨b, off, rfl, h2, h3⟩ := h (by rw [List.length_map]; omega)
  refine ⟨b, off + 4, rfl, h2, fun j u hj => ?_⟩
  rw [List.getElem?_map, List.getElem?_drop, ← List.getElem?_map] at hj
  rw [Nat.add_assoc]
  exact h3 (4 + j) u hj
theorem rc32 : rightC 3 2 0 3 = true := rfl
theorem EncIs.no {w' : World} {base : Nat} {t s so d : Int} {ms : List CM} {v : Value} {e : Int} (h : EncIs w' base t s so d ms v e) (hr : rightC t s so d = true) (hn : ms.length ≤ 65536) (hm : ¬ ∀ m ∈ ms, m.Right) : e = 1 ∧ v = .slice none 0 0 := by
  cases h with
  | conf h => rw [hr] at h; cases h
  | many _ h => omega
  | arg _ _ h => exact ⟨rfl, rfl⟩
  | ok _ _ h _ _ => exact absurd h hm
set_option maxRecDepth 100000 in
set_option maxHeartbeats 8000000 in
theorem walk_CodeJoins (a0 : Option Addr) (len0 cap0 : Nat) (a1 : Option Addr) (len1 cap1 : Nat) (w : World) (w0 : IsRows w [.inl .i64, .inl .i64, .inl .i64, .inl .i64, .inr true, .inr true, .inl .u64, .inl .i64] a0 len0 cap0) (w1 : IsRows w [.inl .i64, .inl .i64, .inl .i64, .inl .i64, .inr true, .inr true, .inl .u64, .inl .i64] a1 len1 cap1) :
    Calls Try.prog 7 #[.slice a0 len0 cap0, .slice a1 len1 cap1] w fun e w' => e = .returned (.bool true) ∧ Below w.heap.size w w' := by
  obtain ⟨V, rfl, hV⟩ := rows_lms w0
  obtain ⟨U, rfl, hU⟩ := rows_lms w1
  have HV := Lib.hid hV
  have HU := Lib.hid hU
  clear w0 w1 hV hU
  have triv : 40 < V.length ∨ 40 < U.length → Calls Try.prog 7 #[.slice a0 V.length cap0, .slice a1 U.length cap1] w fun e w' => e = .returned (.bool true) ∧ Below w.heap.size w w' := fun hbig => by
    rcases (by omega : 40 < V.length ∨ (¬ 40 < V.length ∧ 40 < U.length)) with hv | ⟨hv, hu⟩
    · have hbig' : (40 : Int) < (V.length : Int) := by omega
      go_enter Try.func7, Try.ntmps7
      go_wp2_with fail
      refine (head18_any _).mono ?_
      rintro e w1 ⟨rfl, hb1⟩
      go_wp2_with fail
      go_ret
      exact ⟨rfl, hb1⟩
    · have hv' : ¬ (40 : Int) < (V.length : Int) := by omega
      have hu' : (40 : Int) < (U.length : Int) := by omega
      go_enter Try.func7, Try.ntmps7
      go_wp2_with fail
      refine (head18_any _).mono ?_
      rintro e w1 ⟨rfl, hb1⟩
      go_wp2_with fail
      go_ret
      exact ⟨rfl, hb1⟩
  by_cases hbig : 40 < V.length ∨ 40 < U.length
  · exact triv hbig
  clear triv
  have hv' : ¬ (40 : Int) < (V.length : Int) := by omega
  have hu' : ¬ (40 : Int) < (U.length : Int) := by omega
  have hv : V.length ≤ 40 := by omega
  have hu : U.length ≤ 40 := by omega
  clear hbig
  go_enter Try.func7, Try.ntmps7
  go_wp2_with fail
  refine (head18_any _).mono ?_
  rintro e w1 ⟨rfl, hb1⟩
  have HB1 := Lib.hid hb1
  have HV1 := Lib.hid (HV.out.later hb1)
  have HU1 := Lib.hid (HU.out.later hb1)
  clear hb1 HV HU
  go_wp2_with fail
  refine (confl_at 2 1 0 3 _).mono ?_
  rintro r w2 ⟨hr, hb2⟩
  rw [src_small (by decide) (by decide)] at hr
  obtain rfl : r = .returned (cf 3 2 0 3) := hr
  have HB2 := Lib.hid (below_step HB1.out hb2)
  have HV2 := Lib.hid (HV1.out.later hb2)
  have HU2 := Lib.hid (HU1.out.later hb2)
  have hC0 := (Hold.nil (Below.refl w1.heap.size w1)).later (below_new hb2 (.cells #[.int .i64 3, .int .i64 2, .int .i64 0, .int .i64 3] 24))
  have more := fun {w : World} {l : List Thing} (h : Hold w1 w l) => (h.more (A := tObj w1.heap.size w.heap.size [i64 3, i64 2, i64 0, i64 3, .slice none 0 0]) (below_new (Below.refl _ _) (.cells #[.int .i64 3, .int .i64 2, .int .i64 0, .int .i64 3, .slice none 0 0] 29)) (tObj_ok _ _ _) ⟨IsObj.made _ [i64 3, i64 2, i64 0, i64 3, .slice none 0 0] 29, h.size⟩ (fun q hq => by cases hq; exact Nat.le_refl _)).more (A := tRow w1.heap.size 40 7 (.slice none 0 0) 0 []) (Below.refl _ _) (tRow_ok _ _ _ _ _ _) (World.ownsRow_nil _ _ _ _) (fun q hq => by cases hq)
  have HH3 := more (more (more hC0))
  simp only [World.size_alloc] at HH3
  have HH := Lib.hid HH3
  have HVF := Lib.hid HV1.out.fit
  have HUF := Lib.hid HU1.out.fit
  have HBW := Lib.hid HB1.out
  clear HH3 hC0 more hb2 HB1 HV2 HU2
  go_wp2_with fail
  generalize hs3 : w2.heap.size + 1 + 1 + 1 = s3 at HH ⊢
  generalize hs2 : w2.heap.size + 1 + 1 = s2 at HH ⊢
  generalize hs1 : w2.heap.size + 1 = s1 at HH ⊢
  clear hs1 hs2 hs3
  go_loopw [38] (fun iv wr => ∃ (i : Nat) (A1 : Option Addr) (cp1 : Nat) (A3 : Option Addr) (cp3 : Nat), i ≤ V.length ∧ iv = .int .i64 i ∧ Hid (Hold w1 wr [tObj w1.heap.size s1 [i64 3, i64 2, i64 0, i64 3, .slice A1 (i) cp1], tRow w1.heap.size 40 7 (.slice A1 (i) cp1) (i) (flatM (mkL (V.take (i)))), tObj w1.heap.size s2 [i64 3, i64 2, i64 0, i64 3, .slice none (0) 0], tRow w1.heap.size 40 7 (.slice none (0) 0) (0) (flatM ([])), tObj w1.heap.size s3 [i64 3, i64 2, i64 0, i64 3, .slice A3 (i) cp3], tRow w1.heap.size 40 7 (.slice A3 (i) cp3) (i) (flatM (mkL (V.take (i))))])) (fun iv _ => V.length - (RowKit.intOf iv).toNat)
  case atStart => exact ⟨0, none, 0, none, 0, Nat.zero_le _, rfl, HH⟩
  case round =>
    clear HH
    obtain ⟨i, A1, cp1, A3, cp3, hi, rfl, HH⟩ := hrel
    rcases Nat.lt_or_ge i V.length with hil | hil
    · have hil' : (i : Int) < (V.length : Int) := by omega
      obtain ⟨v, hv'⟩ : ∃ v, V[i]? = some v := ⟨_, List.getElem?_eq_getElem hil⟩
      obtain ⟨b, off, rfl, hat⟩ := HV1.out.at' i v hv'
      have HTK := Lib.hid (mkL_take hv')
      obtain ⟨e0, e1, e2, e3, e4, e5, e6, e7⟩ := hat.later (HH.out.below)
      have hcap := HV1.out.cap
      obtain ⟨m, hm⟩ : ∃ m, v.make = m := ⟨_, rfl⟩
      have HMK := Lib.hid (fun w => make18_any v w)
      rw [hm] at HMK HTK
      have HN := Lib.hid (HH.out.more (A := tObj w1.heap.size wr.heap.size v.list) (below_new (Below.refl _ _) (v.obj 33)) (tObj_ok _ _ _) ⟨IsObj.made wr v.list 33, HH.out.size⟩ (fun q hq => by cases hq; exact Nat.le_refl _))
      clear hat hv' hm HH
      go_wp2_with fail
      clear e0 e1 e2 e3 e4 e5 e6 e7
      generalize wr.alloc (v.obj 33) = wv at HN ⊢
      generalize wr.heap.size = vb at HN ⊢
      replace HN := Lib.hid HN.out.drew
      refine wp_region_seqT (fun w' => w'.cell? ⟨vb, 0, none⟩ = some (i64 v.kind) ∧ w'.cell? ⟨vb, 1, none⟩ = some (i64 v.who) ∧ w'.cell? ⟨vb, 2, none⟩ = some (i64 v.n) ∧ w'.cell? ⟨vb, 3, none⟩ = some (i64 v.start) ∧ w'.cell? ⟨vb, 4, none⟩ = some (.bool v.take) ∧ w'.cell? ⟨vb, 5, none⟩ = some (.bool v.right) ∧ w'.cell? ⟨vb, 6, none⟩ = some (.int .u64 v.value) ∧ w'.cell? ⟨vb, 7, none⟩ = some (i64 v.odd)) (.take 0 (.take 2 (.two 1 (.one 3 (.one 4 (.one 5 (.take 6 (.one 7 .nil))))) 3 (.two 1 (.one 4 (.one 5 (.take 6 (.one 7 .nil)))) 4 (.one 1 (.one 5 (.take 6 (.one 7 .nil)))))))) (by kernel_rfl) (by kernel_rfl) (by kernel_rfl) (by decide) (fun _ _ _ _ _ h => h) (vcells (HN.out.has 6 _ rfl : IsObj _ vb v.list ∧ _).1) ?_
      repeat (refine seqT_take (v := ?_) rfl ?_ ?_ ?_; rotate_left 1; rfl; (focus (intro wS hSw; obtain ⟨x0, x1, x2, x3, x4, x5, x6, x7⟩ := hSw; go_simp; first | done | with_reducible rfl)); (try simp only [Act.put, List.setIfInBounds_toArray, List.set_cons_zero, List.set_cons_succ]))
      refine ⟨?_, ?_⟩
      · refine runT rfl (fun K hK => ?_)
        have s4 := (HN.out.has 0 _ rfl : IsObj _ s1 [i64 3, i64 2, i64 0, i64 3, .slice A1 (i) cp1] ∧ _).1.at' 4 _ rfl
        go_simp
        clear s4
        refine hK.out _ _ (vcells (HN.out.has 6 _ rfl : IsObj _ vb v.list ∧ _).1) (fun _ => ?_)
        (try simp only [Act.put, List.setIfInBounds_toArray, List.set_cons_zero, List.set_cons_succ])
        clear hK K
        refine runT rfl (fun K hK => ?_)
        go_simp
        go_at_call 10
        refine (HMK.out _).mono ?_
        rintro r w3 ⟨rfl, hb3⟩
        (try go_wp2_with fail)
        replace HN := Lib.hid (HN.out.later hb3)
        clear hb3
        refine hK.out _ _ (vcells (HN.out.has 6 _ rfl : IsObj _ vb v.list ∧ _).1) (fun _ => ?_)
        (try simp only [Act.put, List.setIfInBounds_toArray, List.set_cons_zero, List.set_cons_succ])
        clear hK K
        refine runT rfl (fun K hK => ?_)
        go_simp
        replace HN := Lib.hid (HN.out.later (below_new (Below.refl _ _) (m.obj 40)))
        refine hK.out _ _ (vcells (HN.out.has 6 _ rfl : IsObj _ vb v.list ∧ _).1) (fun _ => ?_)
        (try simp only [Act.put, List.setIfInBounds_toArray, List.set_cons_zero, List.set_cons_succ])
        clear hK K
        refine runT rfl (fun K hK => ?_)
        refine step_append_grew rfl _ _ 27 rfl w1.heap.size 40 _ 7 56 elem_cm (.slice A1 (i) cp1) (i) (flatM (mkL (V.take i))) rfl (HN.out.has 1 _ rfl) (some ⟨_, 0, none⟩) 1 1 m.list rfl (src7_at _ _ m (by simp)) (by unfold maxLen; omega) (by omega) HN.out.size ?_
        intro v' w8 hG
        obtain ⟨A5, cp5, rfl⟩ := own_shape hG.own
        replace HN := Lib.hid (HN.out.append 1 rfl rfl hG)
        clear hG
        refine hK.out _ _ (vcells (HN.out.has 6 _ rfl : IsObj _ vb v.list ∧ _).1) (fun _ => ?_)
        (try simp only [Act.put, List.setIfInBounds_toArray, List.set_cons_zero, List.set_cons_succ])
        clear hK K
        repeat (refine seqT_take (v := ?_) rfl ?_ ?_ ?_; rotate_left 1; rfl; (focus (intro wS hSw; obtain ⟨x0, x1, x2, x3, x4, x5, x6, x7⟩ := hSw; go_simp; first | done | with_reducible rfl)); (try simp only [Act.put, List.setIfInBounds_toArray, List.set_cons_zero, List.set_cons_succ]))
        refine runT rfl (fun K hK => ?_)
        have hs8 := (HN.out.has 0 _ rfl : IsObj _ s1 [i64 3, i64 2, i64 0, i64 3, .slice A1 (i) cp1] ∧ _).1
        have z4 := hs8.at' 4 _ rfl
        have y4 := hs8.fz 4
        clear hs8
        go_simp
        replace HN := Lib.hid (HN.out.cdSet 0 rfl 4 (.slice A5 (i + 1) cp5))
        clear z4 y4
        refine hK.out _ _ (vcells (HN.out.has 6 _ rfl : IsObj _ vb v.list ∧ _).1) (fun _ => ?_)
        (try simp only [Act.put, List.setIfInBounds_toArray, List.set_cons_zero, List.set_cons_succ])
        clear hK K
        refine seqT_done ?_
        go_wp2_with fail
        replace HN := Lib.hid HN.out.drew
        refine wp_region_seqT (fun w' => w'.cell? ⟨vb, 0, none⟩ = some (i64 v.kind) ∧ w'.cell? ⟨vb, 1, none⟩ = some (i64 v.who) ∧ w'.cell? ⟨vb, 2, none⟩ = some (i64 v.n) ∧ w'.cell? ⟨vb, 3, none⟩ = some (i64 v.start) ∧ w'.cell? ⟨vb, 4, none⟩ = some (.bool v.take) ∧ w'.cell? ⟨vb, 5, none⟩ = some (.bool v.right) ∧ w'.cell? ⟨vb, 6, none⟩ = some (.int .u64 v.value) ∧ w'.cell? ⟨vb, 7, none⟩ = some (i64 v.odd)) (.take 0 (.take 2 (.two 1 (.one 3 (.one 4 (.one 5 (.take 6 (.one 7 .nil))))) 3 (.two 1 (.one 4 (.one 5 (.take 6 (.one 7 .nil)))) 4 (.one 1 (.one 5 (.take 6 (.one 7 .nil)))))))) (by kernel_rfl) (by kernel_rfl) (by kernel_rfl) (by decide) (fun _ _ _ _ _ h => h) (vcells (HN.out.has 6 _ rfl : IsObj _ vb v.list ∧ _).1) ?_
        repeat (refine seqT_take (v := ?_) rfl ?_ ?_ ?_; rotate_left 1; rfl; (focus (intro wS hSw; obtain ⟨x0, x1, x2, x3, x4, x5, x6, x7⟩ := hSw; go_simp; first | done | with_reducible rfl)); (try simp only [Act.put, List.setIfInBounds_toArray, List.set_cons_zero, List.set_cons_succ]))
        refine ⟨?_, ?_⟩
        · refine runT rfl (fun K hK => ?_)
          have s4 := (HN.out.has 4 _ rfl : IsObj _ s3 [i64 3, i64 2, i64 0, i64 3, .slice A3 (i) cp3] ∧ _).1.at' 4 _ rfl
          go_simp
          clear s4
          refine hK.out _ _ (vcells (HN.out.has 6 _ rfl : IsObj _ vb v.list ∧ _).1) (fun _ => ?_)
          (try simp only [Act.put, List.setIfInBounds_toArray, List.set_cons_zero, List.set_cons_succ])
          clear hK K
          refine runT rfl (fun K hK => ?_)
          go_simp
          go_at_call 10
          refine (HMK.out _).mono ?_
          rintro r w3 ⟨rfl, hb3⟩
          (try go_wp2_with fail)
          replace HN := Lib.hid (HN.out.later hb3)
          clear hb3
          refine hK.out _ _ (vcells (HN.out.has 6 _ rfl : IsObj _ vb v.list ∧ _).1) (fun _ => ?_)
          (try simp only [Act.put, List.setIfInBounds_toArray, List.set_cons_zero, List.set_cons_succ])
          clear hK K
          refine runT rfl (fun K hK => ?_)
          go_simp
          replace HN := Lib.hid (HN.out.later (below_new (Below.refl _ _) (m.obj 40)))
          refine hK.out _ _ (vcells (HN.out.has 6 _ rfl : IsObj _ vb v.list ∧ _).1) (fun _ => ?_)
          (try simp only [Act.put, List.setIfInBounds_toArray, List.set_cons_zero, List.set_cons_succ])
          clear hK K
          refine runT rfl (fun K hK => ?_)
          refine step_append_grew rfl _ _ 27 rfl w1.heap.size 40 _ 7 56 elem_cm (.slice A3 (i) cp3) (i) (flatM (mkL (V.take i))) rfl (HN.out.has 5 _ rfl) (some ⟨_, 0, none⟩) 1 1 m.list rfl (src7_at _ _ m (by simp)) (by unfold maxLen; omega) (by omega) HN.out.size ?_
          intro v' w8 hG
          obtain ⟨A6, cp6, rfl⟩ := own_shape hG.own
          replace HN := Lib.hid (HN.out.append 5 rfl rfl hG)
          clear hG
          refine hK.out _ _ (vcells (HN.out.has 6 _ rfl : IsObj _ vb v.list ∧ _).1) (fun _ => ?_)
          (try simp only [Act.put, List.setIfInBounds_toArray, List.set_cons_zero, List.set_cons_succ])
          clear hK K
          repeat (refine seqT_take (v := ?_) rfl ?_ ?_ ?_; rotate_left 1; rfl; (focus (intro wS hSw; obtain ⟨x0, x1, x2, x3, x4, x5, x6, x7⟩ := hSw; go_simp; first | done | with_reducible rfl)); (try simp only [Act.put, List.setIfInBounds_toArray, List.set_cons_zero, List.set_cons_succ]))
          refine runT rfl (fun K hK => ?_)
          have hs8 := (HN.out.has 4 _ rfl : IsObj _ s3 [i64 3, i64 2, i64 0, i64 3, .slice A3 (i) cp3] ∧ _).1
          have z4 := hs8.at' 4 _ rfl
          have y4 := hs8.fz 4
          clear hs8
          go_simp
          replace HN := Lib.hid (HN.out.cdSet 4 rfl 4 (.slice A6 (i + 1) cp6))
          clear z4 y4
          refine hK.out _ _ (vcells (HN.out.has 6 _ rfl : IsObj _ vb v.list ∧ _).1) (fun _ => ?_)
          (try simp only [Act.put, List.setIfInBounds_toArray, List.set_cons_zero, List.set_cons_succ])
          clear hK K
          refine seqT_done ?_
          have HH9 : Hid (Hold w1 _ [tObj w1.heap.size s1 [i64 3, i64 2, i64 0, i64 3, .slice A5 (i + 1) cp5], tRow w1.heap.size 40 7 (.slice A5 (i + 1) cp5) (i + 1) (flatM (mkL (V.take (i + 1)))), tObj w1.heap.size s2 [i64 3, i64 2, i64 0, i64 3, .slice none (0) 0], tRow w1.heap.size 40 7 (.slice none (0) 0) (0) (flatM ([])), tObj w1.heap.size s3 [i64 3, i64 2, i64 0, i64 3, .slice A6 (i + 1) cp6], tRow w1.heap.size 40 7 (.slice A6 (i + 1) cp6) (i + 1) (flatM (mkL (V.take (i + 1))))]) := Lib.hid (by
            have h := HN.out.less (m := [_]) (l := [_, _, _, _, _, _])
            rw [HTK.out, flatM_append, show flatM [m] = m.list by rw [flatM, flatM, List.append_nil]]
            exact h)
          clear HN
          go_wp2_with fail
          go_roundw
          case rel => exact ⟨i + 1, A5, cp5, A6, cp6, by omega, by go_num, HH9⟩
          case measure => first | omega | (simp [RowKit.intOf]; done) | (simp [RowKit.intOf]; omega)
        · refine runT rfl (fun K hK => ?_)
          go_simp
          go_at_call 10
          refine (HMK.out _).mono ?_
          rintro r w3 ⟨rfl, hb3⟩
          (try go_wp2_with fail)
          replace HN := Lib.hid (HN.out.later hb3)
          clear hb3
          refine hK.out _ _ (vcells (HN.out.has 6 _ rfl : IsObj _ vb v.list ∧ _).1) (fun _ => ?_)
          (try simp only [Act.put, List.setIfInBounds_toArray, List.set_cons_zero, List.set_cons_succ])
          clear hK K
          refine ⟨?_, ?_⟩
          · refine runT rfl (fun K hK => ?_)
            have s4 := (HN.out.has 4 _ rfl : IsObj _ s3 [i64 3, i64 2, i64 0, i64 3, .slice A3 (i) cp3] ∧ _).1.at' 4 _ rfl
            go_simp
            clear s4
            refine hK.out _ _ (vcells (HN.out.has 6 _ rfl : IsObj _ vb v.list ∧ _).1) (fun _ => ?_)
            (try simp only [Act.put, List.setIfInBounds_toArray, List.set_cons_zero, List.set_cons_succ])
            clear hK K
            refine runT rfl (fun K hK => ?_)
            go_simp
            replace HN := Lib.hid (HN.out.later (below_new (Below.refl _ _) (m.obj 40)))
            refine hK.out _ _ (vcells (HN.out.has 6 _ rfl : IsObj _ vb v.list ∧ _).1) (fun _ => ?_)
            (try simp only [Act.put, List.setIfInBounds_toArray, List.set_cons_zero, List.set_cons_succ])
            clear hK K
            refine runT rfl (fun K hK => ?_)
            refine step_append_grew rfl _ _ 27 rfl w1.heap.size 40 _ 7 56 elem_cm (.slice A3 (i) cp3) (i) (flatM (mkL (V.take i))) rfl (HN.out.has 5 _ rfl) (some ⟨_, 0, none⟩) 1 1 m.list rfl (src7_at _ _ m (by simp)) (by unfold maxLen; omega) (by omega) HN.out.size ?_
            intro v' w8 hG
            obtain ⟨A6, cp6, rfl⟩ := own_shape hG.own
            replace HN := Lib.hid (HN.out.append 5 rfl rfl hG)
            clear hG
            refine hK.out _ _ (vcells (HN.out.has 6 _ rfl : IsObj _ vb v.list ∧ _).1) (fun _ => ?_)
            (try simp only [Act.put, List.setIfInBounds_toArray, List.set_cons_zero, List.set_cons_succ])
            clear hK K
            repeat (refine seqT_take (v := ?_) rfl ?_ ?_ ?_; rotate_left 1; rfl; (focus (intro wS hSw; obtain ⟨x0, x1, x2, x3, x4, x5, x6, x7⟩ := hSw; go_simp; first | done | with_reducible rfl)); (try simp only [Act.put, List.setIfInBounds_toArray, List.set_cons_zero, List.set_cons_succ]))
            refine runT rfl (fun K hK => ?_)
            have hs8 := (HN.out.has 4 _ rfl : IsObj _ s3 [i64 3, i64 2, i64 0, i64 3, .slice A3 (i) cp3] ∧ _).1
            have z4 := hs8.at' 4 _ rfl
            have y4 := hs8.fz 4
            clear hs8
            go_simp
            replace HN := Lib.hid (HN.out.cdSet 4 rfl 4 (.slice A6 (i + 1) cp6))
            clear z4 y4
            refine hK.out _ _ (vcells (HN.out.has 6 _ rfl : IsObj _ vb v.list ∧ _).1) (fun _ => ?_)
            (try simp only [Act.put, List.setIfInBounds_toArray, List.set_cons_zero, List.set_cons_succ])
            clear hK K
            refine seqT_done ?_
            have HH9 : Hid (Hold w1 _ [tObj w1.heap.size s1 [i64 3, i64 2, i64 0, i64 3, .slice A5 (i + 1) cp5], tRow w1.heap.size 40 7 (.slice A5 (i + 1) cp5) (i + 1) (flatM (mkL (V.take (i + 1)))), tObj w1.heap.size s2 [i64 3, i64 2, i64 0, i64 3, .slice none (0) 0], tRow w1.heap.size 40 7 (.slice none (0) 0) (0) (flatM ([])), tObj w1.heap.size s3 [i64 3, i64 2, i64 0, i64 3, .slice A6 (i + 1) cp6], tRow w1.heap.size 40 7 (.slice A6 (i + 1) cp6) (i + 1) (flatM (mkL (V.take (i + 1))))]) := Lib.hid (by
              have h := HN.out.less (m := [_]) (l := [_, _, _, _, _, _])
              rw [HTK.out, flatM_append, show flatM [m] = m.list by rw [flatM, flatM, List.append_nil]]
              exact h)
            clear HN
            go_wp2_with fail
            go_roundw
            case rel => exact ⟨i + 1, A5, cp5, A6, cp6, by omega, by go_num, HH9⟩
            case measure => first | omega | (simp [RowKit.intOf]; done) | (simp [RowKit.intOf]; omega)
          · refine runT rfl (fun K hK => ?_)
            go_simp
            replace HN := Lib.hid (HN.out.later (below_new (Below.refl _ _) (m.obj 40)))
            refine hK.out _ _ (vcells (HN.out.has 6 _ rfl : IsObj _ vb v.list ∧ _).1) (fun _ => ?_)
            (try simp only [Act.put, List.setIfInBounds_toArray, List.set_cons_zero, List.set_cons_succ])
            clear hK K
            refine runT rfl (fun K hK => ?_)
            have s4 := (HN.out.has 4 _ rfl : IsObj _ s3 [i64 3, i64 2, i64 0, i64 3, .slice A3 (i) cp3] ∧ _).1.at' 4 _ rfl
            go_simp
            clear s4
            refine hK.out _ _ (vcells (HN.out.has 6 _ rfl : IsObj _ vb v.list ∧ _).1) (fun _ => ?_)
            (try simp only [Act.put, List.setIfInBounds_toArray, List.set_cons_zero, List.set_cons_succ])
            clear hK K
            refine runT rfl (fun K hK => ?_)
            refine step_append_grew rfl _ _ 27 rfl w1.heap.size 40 _ 7 56 elem_cm (.slice A3 (i) cp3) (i) (flatM (mkL (V.take i))) rfl (HN.out.has 5 _ rfl) (some ⟨_, 0, none⟩) 1 1 m.list rfl (src7_at _ _ m (by simp)) (by unfold maxLen; omega) (by omega) HN.out.size ?_
            intro v' w8 hG
            obtain ⟨A6, cp6, rfl⟩ := own_shape hG.own
            replace HN := Lib.hid (HN.out.append 5 rfl rfl hG)
            clear hG
            refine hK.out _ _ (vcells (HN.out.has 6 _ rfl : IsObj _ vb v.list ∧ _).1) (fun _ => ?_)
            (try simp only [Act.put, List.setIfInBounds_toArray, List.set_cons_zero, List.set_cons_succ])
            clear hK K
            repeat (refine seqT_take (v := ?_) rfl ?_ ?_ ?_; rotate_left 1; rfl; (focus (intro wS hSw; obtain ⟨x0, x1, x2, x3, x4, x5, x6, x7⟩ := hSw; go_simp; first | done | with_reducible rfl)); (try simp only [Act.put, List.setIfInBounds_toArray, List.set_cons_zero, List.set_cons_succ]))
            refine runT rfl (fun K hK => ?_)
            have hs8 := (HN.out.has 4 _ rfl : IsObj _ s3 [i64 3, i64 2, i64 0, i64 3, .slice A3 (i) cp3] ∧ _).1
            have z4 := hs8.at' 4 _ rfl
            have y4 := hs8.fz 4
            clear hs8
            go_simp
            replace HN := Lib.hid (HN.out.cdSet 4 rfl 4 (.slice A6 (i + 1) cp6))
            clear z4 y4
            refine hK.out _ _ (vcells (HN.out.has 6 _ rfl : IsObj _ vb v.list ∧ _).1) (fun _ => ?_)
            (try simp only [Act.put, List.setIfInBounds_toArray, List.set_cons_zero, List.set_cons_succ])
            clear hK K
            refine seqT_done ?_
            have HH9 : Hid (Hold w1 _ [tObj w1.heap.size s1 [i64 3, i64 2, i64 0, i64 3, .slice A5 (i + 1) cp5], tRow w1.heap.size 40 7 (.slice A5 (i + 1) cp5) (i + 1) (flatM (mkL (V.take (i + 1)))), tObj w1.heap.size s2 [i64 3, i64 2, i64 0, i64 3, .slice none (0) 0], tRow w1.heap.size 40 7 (.slice none (0) 0) (0) (flatM ([])), tObj w1.heap.size s3 [i64 3, i64 2, i64 0, i64 3, .slice A6 (i + 1) cp6], tRow w1.heap.size 40 7 (.slice A6 (i + 1) cp6) (i + 1) (flatM (mkL (V.take (i + 1))))]) := Lib.hid (by
              have h := HN.out.less (m := [_]) (l := [_, _, _, _, _, _])
              rw [HTK.out, flatM_append, show flatM [m] = m.list by rw [flatM, flatM, List.append_nil]]
              exact h)
            clear HN
            go_wp2_with fail
            go_roundw
            case rel => exact ⟨i + 1, A5, cp5, A6, cp6, by omega, by go_num, HH9⟩
            case measure => first | omega | (simp [RowKit.intOf]; done) | (simp [RowKit.intOf]; omega)
      · refine runT rfl (fun K hK => ?_)
        go_simp
        go_at_call 10
        refine (HMK.out _).mono ?_
        rintro r w3 ⟨rfl, hb3⟩
        (try go_wp2_with fail)
        replace HN := Lib.hid (HN.out.later hb3)
        clear hb3
        refine hK.out _ _ (vcells (HN.out.has 6 _ rfl : IsObj _ vb v.list ∧ _).1) (fun _ => ?_)
        (try simp only [Act.put, List.setIfInBounds_toArray, List.set_cons_zero, List.set_cons_succ])
        clear hK K
        refine ⟨?_, ?_⟩
        · refine runT rfl (fun K hK => ?_)
          have s4 := (HN.out.has 0 _ rfl : IsObj _ s1 [i64 3, i64 2, i64 0, i64 3, .slice A1 (i) cp1] ∧ _).1.at' 4 _ rfl
          go_simp
          clear s4
          refine hK.out _ _ (vcells (HN.out.has 6 _ rfl : IsObj _ vb v.list ∧ _).1) (fun _ => ?_)
          (try simp only [Act.put, List.setIfInBounds_toArray, List.set_cons_zero, List.set_cons_succ])
          clear hK K
          refine runT rfl (fun K hK => ?_)
          go_simp
          replace HN := Lib.hid (HN.out.later (below_new (Below.refl _ _) (m.obj 40)))
          refine hK.out _ _ (vcells (HN.out.has 6 _ rfl : IsObj _ vb v.list ∧ _).1) (fun _ => ?_)
          (try simp only [Act.put, List.setIfInBounds_toArray, List.set_cons_zero, List.set_cons_succ])
          clear hK K
          refine runT rfl (fun K hK => ?_)
          refine step_append_grew rfl _ _ 27 rfl w1.heap.size 40 _ 7 56 elem_cm (.slice A1 (i) cp1) (i) (flatM (mkL (V.take i))) rfl (HN.out.has 1 _ rfl) (some ⟨_, 0, none⟩) 1 1 m.list rfl (src7_at _ _ m (by simp)) (by unfold maxLen; omega) (by omega) HN.out.size ?_
          intro v' w8 hG
          obtain ⟨A5, cp5, rfl⟩ := own_shape hG.own
          replace HN := Lib.hid (HN.out.append 1 rfl rfl hG)
          clear hG
          refine hK.out _ _ (vcells (HN.out.has 6 _ rfl : IsObj _ vb v.list ∧ _).1) (fun _ => ?_)
          (try simp only [Act.put, List.setIfInBounds_toArray, List.set_cons_zero, List.set_cons_succ])
          clear hK K
          repeat (refine seqT_take (v := ?_) rfl ?_ ?_ ?_; rotate_left 1; rfl; (focus (intro wS hSw; obtain ⟨x0, x1, x2, x3, x4, x5, x6, x7⟩ := hSw; go_simp; first | done | with_reducible rfl)); (try simp only [Act.put, List.setIfInBounds_toArray, List.set_cons_zero, List.set_cons_succ]))
          refine runT rfl (fun K hK => ?_)
          have hs8 := (HN.out.has 0 _ rfl : IsObj _ s1 [i64 3, i64 2, i64 0, i64 3, .slice A1 (i) cp1] ∧ _).1
          have z4 := hs8.at' 4 _ rfl
          have y4 := hs8.fz 4
          clear hs8
          go_simp
          replace HN := Lib.hid (HN.out.cdSet 0 rfl 4 (.slice A5 (i + 1) cp5))
          clear z4 y4
          refine hK.out _ _ (vcells (HN.out.has 6 _ rfl : IsObj _ vb v.list ∧ _).1) (fun _ => ?_)
          (try simp only [Act.put, List.setIfInBounds_toArray, List.set_cons_zero, List.set_cons_succ])
          clear hK K
          refine seqT_done ?_
          go_wp2_with fail
          replace HN := Lib.hid HN.out.drew
          refine wp_region_seqT (fun w' => w'.cell? ⟨vb, 0, none⟩ = some (i64 v.kind) ∧ w'.cell? ⟨vb, 1, none⟩ = some (i64 v.who) ∧ w'.cell? ⟨vb, 2, none⟩ = some (i64 v.n) ∧ w'.cell? ⟨vb, 3, none⟩ = some (i64 v.start) ∧ w'.cell? ⟨vb, 4, none⟩ = some (.bool v.take) ∧ w'.cell? ⟨vb, 5, none⟩ = some (.bool v.right) ∧ w'.cell? ⟨vb, 6, none⟩ = some (.int .u64 v.value) ∧ w'.cell? ⟨vb, 7, none⟩ = some (i64 v.odd)) (.take 0 (.take 2 (.two 1 (.one 3 (.one 4 (.one 5 (.take 6 (.one 7 .nil))))) 3 (.two 1 (.one 4 (.one 5 (.take 6 (.one 7 .nil)))) 4 (.one 1 (.one 5 (.take 6 (.one 7 .nil)))))))) (by kernel_rfl) (by kernel_rfl) (by kernel_rfl) (by decide) (fun _ _ _ _ _ h => h) (vcells (HN.out.has 6 _ rfl : IsObj _ vb v.list ∧ _).1) ?_
          repeat (refine seqT_take (v := ?_) rfl ?_ ?_ ?_; rotate_left 1; rfl; (focus (intro wS hSw; obtain ⟨x0, x1, x2, x3, x4, x5, x6, x7⟩ := hSw; go_simp; first | done | with_reducible rfl)); (try simp only [Act.put, List.setIfInBounds_toArray, List.set_cons_zero, List.set_cons_succ]))
          refine ⟨?_, ?_⟩
          · refine runT rfl (fun K hK => ?_)
            have s4 := (HN.out.has 4 _ rfl : IsObj _ s3 [i64 3, i64 2, i64 0, i64 3, .slice A3 (i) cp3] ∧ _).1.at' 4 _ rfl
            go_simp
            clear s4
            refine hK.out _ _ (vcells (HN.out.has 6 _ rfl : IsObj _ vb v.list ∧ _).1) (fun _ => ?_)
            (try simp only [Act.put, List.setIfInBounds_toArray, List.set_cons_zero, List.set_cons_succ])
            clear hK K
            refine runT rfl (fun K hK => ?_)
            go_simp
            go_at_call 10
            refine (HMK.out _).mono ?_
            rintro r w3 ⟨rfl, hb3⟩
            (try go_wp2_with fail)
            replace HN := Lib.hid (HN.out.later hb3)
            clear hb3
            refine hK.out _ _ (vcells (HN.out.has 6 _ rfl : IsObj _ vb v.list ∧ _).1) (fun _ => ?_)
            (try simp only [Act.put, List.setIfInBounds_toArray, List.set_cons_zero, List.set_cons_succ])
            clear hK K
            refine runT rfl (fun K hK => ?_)
            go_simp
            replace HN := Lib.hid (HN.out.later (below_new (Below.refl _ _) (m.obj 40)))
            refine hK.out _ _ (vcells (HN.out.has 6 _ rfl : IsObj _ vb v.list ∧ _).1) (fun _ => ?_)
            (try simp only [Act.put, List.setIfInBounds_toArray, List.set_cons_zero, List.set_cons_succ])
            clear hK K
            refine runT rfl (fun K hK => ?_)
            refine step_append_grew rfl _ _ 27 rfl w1.heap.size 40 _ 7 56 elem_cm (.slice A3 (i) cp3) (i) (flatM (mkL (V.take i))) rfl (HN.out.has 5 _ rfl) (some ⟨_, 0, none⟩) 1 1 m.list rfl (src7_at _ _ m (by simp)) (by unfold maxLen; omega) (by omega) HN.out.size ?_
            intro v' w8 hG
            obtain ⟨A6, cp6, rfl⟩ := own_shape hG.own
            replace HN := Lib.hid (HN.out.append 5 rfl rfl hG)
            clear hG
            refine hK.out _ _ (vcells (HN.out.has 6 _ rfl : IsObj _ vb v.list ∧ _).1) (fun _ => ?_)
            (try simp only [Act.put, List.setIfInBounds_toArray, List.set_cons_zero, List.set_cons_succ])
            clear hK K
            repeat (refine seqT_take (v := ?_) rfl ?_ ?_ ?_; rotate_left 1; rfl; (focus (intro wS hSw; obtain ⟨x0, x1, x2, x3, x4, x5, x6, x7⟩ := hSw; go_simp; first | done | with_reducible rfl)); (try simp only [Act.put, List.setIfInBounds_toArray, List.set_cons_zero, List.set_cons_succ]))
            refine runT rfl (fun K hK => ?_)
            have hs8 := (HN.out.has 4 _ rfl : IsObj _ s3 [i64 3, i64 2, i64 0, i64 3, .slice A3 (i) cp3] ∧ _).1
            have z4 := hs8.at' 4 _ rfl
            have y4 := hs8.fz 4
            clear hs8
            go_simp
            replace HN := Lib.hid (HN.out.cdSet 4 rfl 4 (.slice A6 (i + 1) cp6))
            clear z4 y4
            refine hK.out _ _ (vcells (HN.out.has 6 _ rfl : IsObj _ vb v.list ∧ _).1) (fun _ => ?_)
            (try simp only [Act.put, List.setIfInBounds_toArray, List.set_cons_zero, List.set_cons_succ])
            clear hK K
            refine seqT_done ?_
            have HH9 : Hid (Hold w1 _ [tObj w1.heap.size s1 [i64 3, i64 2, i64 0, i64 3, .slice A5 (i + 1) cp5], tRow w1.heap.size 40 7 (.slice A5 (i + 1) cp5) (i + 1) (flatM (mkL (V.take (i + 1)))), tObj w1.heap.size s2 [i64 3, i64 2, i64 0, i64 3, .slice none (0) 0], tRow w1.heap.size 40 7 (.slice none (0) 0) (0) (flatM ([])), tObj w1.heap.size s3 [i64 3, i64 2, i64 0, i64 3, .slice A6 (i + 1) cp6], tRow w1.heap.size 40 7 (.slice A6 (i + 1) cp6) (i + 1) (flatM (mkL (V.take (i + 1))))]) := Lib.hid (by
              have h := HN.out.less (m := [_]) (l := [_, _, _, _, _, _])
              rw [HTK.out, flatM_append, show flatM [m] = m.list by rw [flatM, flatM, List.append_nil]]
              exact h)
            clear HN
            go_wp2_with fail
            go_roundw
            case rel => exact ⟨i + 1, A5, cp5, A6, cp6, by omega, by go_num, HH9⟩
            case measure => first | omega | (simp [RowKit.intOf]; done) | (simp [RowKit.intOf]; omega)
          · refine runT rfl (fun K hK => ?_)
            go_simp
            go_at_call 10
            refine (HMK.out _).mono ?_
            rintro r w3 ⟨rfl, hb3⟩
            (try go_wp2_with fail)
            replace HN := Lib.hid (HN.out.later hb3)
            clear hb3
            refine hK.out _ _ (vcells (HN.out.has 6 _ rfl : IsObj _ vb v.list ∧ _).1) (fun _ => ?_)
            (try simp only [Act.put, List.setIfInBounds_toArray, List.set_cons_zero, List.set_cons_succ])
            clear hK K
            refine ⟨?_, ?_⟩
            · refine runT rfl (fun K hK => ?_)
              have s4 := (HN.out.has 4 _ rfl : IsObj _ s3 [i64 3, i64 2, i64 0, i64 3, .slice A3 (i) cp3] ∧ _).1.at' 4 _ rfl
              go_simp
              clear s4
              refine hK.out _ _ (vcells (HN.out.has 6 _ rfl : IsObj _ vb v.list ∧ _).1) (fun _ => ?_)
              (try simp only [Act.put, List.setIfInBounds_toArray, List.set_cons_zero, List.set_cons_succ])
              clear hK K
              refine runT rfl (fun K hK => ?_)
              go_simp
              replace HN := Lib.hid (HN.out.later (below_new (Below.refl _ _) (m.obj 40)))
              refine hK.out _ _ (vcells (HN.out.has 6 _ rfl : IsObj _ vb v.list ∧ _).1) (fun _ => ?_)
              (try simp only [Act.put, List.setIfInBounds_toArray, List.set_cons_zero, List.set_cons_succ])
              clear hK K
              refine runT rfl (fun K hK => ?_)
              refine step_append_grew rfl _ _ 27 rfl w1.heap.size 40 _ 7 56 elem_cm (.slice A3 (i) cp3) (i) (flatM (mkL (V.take i))) rfl (HN.out.has 5 _ rfl) (some ⟨_, 0, none⟩) 1 1 m.list rfl (src7_at _ _ m (by simp)) (by unfold maxLen; omega) (by omega) HN.out.size ?_
              intro v' w8 hG
              obtain ⟨A6, cp6, rfl⟩ := own_shape hG.own
              replace HN := Lib.hid (HN.out.append 5 rfl rfl hG)
              clear hG
              refine hK.out _ _ (vcells (HN.out.has 6 _ rfl : IsObj _ vb v.list ∧ _).1) (fun _ => ?_)
              (try simp only [Act.put, List.setIfInBounds_toArray, List.set_cons_zero, List.set_cons_succ])
              clear hK K
              repeat (refine seqT_take (v := ?_) rfl ?_ ?_ ?_; rotate_left 1; rfl; (focus (intro wS hSw; obtain ⟨x0, x1, x2, x3, x4, x5, x6, x7⟩ := hSw; go_simp; first | done | with_reducible rfl)); (try simp only [Act.put, List.setIfInBounds_toArray, List.set_cons_zero, List.set_cons_succ]))
              refine runT rfl (fun K hK => ?_)
              have hs8 := (HN.out.has 4 _ rfl : IsObj _ s3 [i64 3, i64 2, i64 0, i64 3, .slice A3 (i) cp3] ∧ _).1
              have z4 := hs8.at' 4 _ rfl
              have y4 := hs8.fz 4
              clear hs8
              go_simp
              replace HN := Lib.hid (HN.out.cdSet 4 rfl 4 (.slice A6 (i + 1) cp6))
              clear z4 y4
              refine hK.out _ _ (vcells (HN.out.has 6 _ rfl : IsObj _ vb v.list ∧ _).1) (fun _ => ?_)
              (try simp only [Act.put, List.setIfInBounds_toArray, List.set_cons_zero, List.set_cons_succ])
              clear hK K
              refine seqT_done ?_
              have HH9 : Hid (Hold w1 _ [tObj w1.heap.size s1 [i64 3, i64 2, i64 0, i64 3, .slice A5 (i + 1) cp5], tRow w1.heap.size 40 7 (.slice A5 (i + 1) cp5) (i + 1) (flatM (mkL (V.take (i + 1)))), tObj w1.heap.size s2 [i64 3, i64 2, i64 0, i64 3, .slice none (0) 0], tRow w1.heap.size 40 7 (.slice none (0) 0) (0) (flatM ([])), tObj w1.heap.size s3 [i64 3, i64 2, i64 0, i64 3, .slice A6 (i + 1) cp6], tRow w1.heap.size 40 7 (.slice A6 (i + 1) cp6) (i + 1) (flatM (mkL (V.take (i + 1))))]) := Lib.hid (by
                have h := HN.out.less (m := [_]) (l := [_, _, _, _, _, _])
                rw [HTK.out, flatM_append, show flatM [m] = m.list by rw [flatM, flatM, List.append_nil]]
                exact h)
              clear HN
              go_wp2_with fail
              go_roundw
              case rel => exact ⟨i + 1, A5, cp5, A6, cp6, by omega, by go_num, HH9⟩
              case measure => first | omega | (simp [RowKit.intOf]; done) | (simp [RowKit.intOf]; omega)
            · refine runT rfl (fun K hK => ?_)
              go_simp
              replace HN := Lib.hid (HN.out.later (below_new (Below.refl _ _) (m.obj 40)))
              refine hK.out _ _ (vcells (HN.out.has 6 _ rfl : IsObj _ vb v.list ∧ _).1) (fun _ => ?_)
              (try simp only [Act.put, List.setIfInBounds_toArray, List.set_cons_zero, List.set_cons_succ])
              clear hK K
              refine runT rfl (fun K hK => ?_)
              have s4 := (HN.out.has 4 _ rfl : IsObj _ s3 [i64 3, i64 2, i64 0, i64 3, .slice A3 (i) cp3] ∧ _).1.at' 4 _ rfl
              go_simp
              clear s4
              refine hK.out _ _ (vcells (HN.out.has 6 _ rfl : IsObj _ vb v.list ∧ _).1) (fun _ => ?_)
              (try simp only [Act.put, List.setIfInBounds_toArray, List.set_cons_zero, List.set_cons_succ])
              clear hK K
              refine runT rfl (fun K hK => ?_)
              refine step_append_grew rfl _ _ 27 rfl w1.heap.size 40 _ 7 56 elem_cm (.slice A3 (i) cp3) (i) (flatM (mkL (V.take i))) rfl (HN.out.has 5 _ rfl) (some ⟨_, 0, none⟩) 1 1 m.list rfl (src7_at _ _ m (by simp)) (by unfold maxLen; omega) (by omega) HN.out.size ?_
              intro v' w8 hG
              obtain ⟨A6, cp6, rfl⟩ := own_shape hG.own
              replace HN := Lib.hid (HN.out.append 5 rfl rfl hG)
              clear hG
              refine hK.out _ _ (vcells (HN.out.has 6 _ rfl : IsObj _ vb v.list ∧ _).1) (fun _ => ?_)
              (try simp only [Act.put, List.setIfInBounds_toArray, List.set_cons_zero, List.set_cons_succ])
              clear hK K
              repeat (refine seqT_take (v := ?_) rfl ?_ ?_ ?_; rotate_left 1; rfl; (focus (intro wS hSw; obtain ⟨x0, x1, x2, x3, x4, x5, x6, x7⟩ := hSw; go_simp; first | done | with_reducible rfl)); (try simp only [Act.put, List.setIfInBounds_toArray, List.set_cons_zero, List.set_cons_succ]))
              refine runT rfl (fun K hK => ?_)
              have hs8 := (HN.out.has 4 _ rfl : IsObj _ s3 [i64 3, i64 2, i64 0, i64 3, .slice A3 (i) cp3] ∧ _).1
              have z4 := hs8.at' 4 _ rfl
              have y4 := hs8.fz 4
              clear hs8
              go_simp
              replace HN := Lib.hid (HN.out.cdSet 4 rfl 4 (.slice A6 (i + 1) cp6))
              clear z4 y4
              refine hK.out _ _ (vcells (HN.out.has 6 _ rfl : IsObj _ vb v.list ∧ _).1) (fun _ => ?_)
              (try simp only [Act.put, List.setIfInBounds_toArray, List.set_cons_zero, List.set_cons_succ])
              clear hK K
              refine seqT_done ?_
              have HH9 : Hid (Hold w1 _ [tObj w1.heap.size s1 [i64 3, i64 2, i64 0, i64 3, .slice A5 (i + 1) cp5], tRow w1.heap.size 40 7 (.slice A5 (i + 1) cp5) (i + 1) (flatM (mkL (V.take (i + 1)))), tObj w1.heap.size s2 [i64 3, i64 2, i64 0, i64 3, .slice none (0) 0], tRow w1.heap.size 40 7 (.slice none (0) 0) (0) (flatM ([])), tObj w1.heap.size s3 [i64 3, i64 2, i64 0, i64 3, .slice A6 (i + 1) cp6], tRow w1.heap.size 40 7 (.slice A6 (i + 1) cp6) (i + 1) (flatM (mkL (V.take (i + 1))))]) := Lib.hid (by
                have h := HN.out.less (m := [_]) (l := [_, _, _, _, _, _])
                rw [HTK.out, flatM_append, show flatM [m] = m.list by rw [flatM, flatM, List.append_nil]]
                exact h)
              clear HN
              go_wp2_with fail
              go_roundw
              case rel => exact ⟨i + 1, A5, cp5, A6, cp6, by omega, by go_num, HH9⟩
              case measure => first | omega | (simp [RowKit.intOf]; done) | (simp [RowKit.intOf]; omega)
        · refine runT rfl (fun K hK => ?_)
          go_simp
          replace HN := Lib.hid (HN.out.later (below_new (Below.refl _ _) (m.obj 40)))
          refine hK.out _ _ (vcells (HN.out.has 6 _ rfl : IsObj _ vb v.list ∧ _).1) (fun _ => ?_)
          (try simp only [Act.put, List.setIfInBounds_toArray, List.set_cons_zero, List.set_cons_succ])
          clear hK K
          refine runT rfl (fun K hK => ?_)
          have s4 := (HN.out.has 0 _ rfl : IsObj _ s1 [i64 3, i64 2, i64 0, i64 3, .slice A1 (i) cp1] ∧ _).1.at' 4 _ rfl
          go_simp
          clear s4
          refine hK.out _ _ (vcells (HN.out.has 6 _ rfl : IsObj _ vb v.list ∧ _).1) (fun _ => ?_)
          (try simp only [Act.put, List.setIfInBounds_toArray, List.set_cons_zero, List.set_cons_succ])
          clear hK K
          refine runT rfl (fun K hK => ?_)
          refine step_append_grew rfl _ _ 27 rfl w1.heap.size 40 _ 7 56 elem_cm (.slice A1 (i) cp1) (i) (flatM (mkL (V.take i))) rfl (HN.out.has 1 _ rfl) (some ⟨_, 0, none⟩) 1 1 m.list rfl (src7_at _ _ m (by simp)) (by unfold maxLen; omega) (by omega) HN.out.size ?_
          intro v' w8 hG
          obtain ⟨A5, cp5, rfl⟩ := own_shape hG.own
          replace HN := Lib.hid (HN.out.append 1 rfl rfl hG)
          clear hG
          refine hK.out _ _ (vcells (HN.out.has 6 _ rfl : IsObj _ vb v.list ∧ _).1) (fun _ => ?_)
          (try simp only [Act.put, List.setIfInBounds_toArray, List.set_cons_zero, List.set_cons_succ])
          clear hK K
          repeat (refine seqT_take (v := ?_) rfl ?_ ?_ ?_; rotate_left 1; rfl; (focus (intro wS hSw; obtain ⟨x0, x1, x2, x3, x4, x5, x6, x7⟩ := hSw; go_simp; first | done | with_reducible rfl)); (try simp only [Act.put, List.setIfInBounds_toArray, List.set_cons_zero, List.set_cons_succ]))
          refine runT rfl (fun K hK => ?_)
          have hs8 := (HN.out.has 0 _ rfl : IsObj _ s1 [i64 3, i64 2, i64 0, i64 3, .slice A1 (i) cp1] ∧ _).1
          have z4 := hs8.at' 4 _ rfl
          have y4 := hs8.fz 4
          clear hs8
          go_simp
          replace HN := Lib.hid (HN.out.cdSet 0 rfl 4 (.slice A5 (i + 1) cp5))
          clear z4 y4
          refine hK.out _ _ (vcells (HN.out.has 6 _ rfl : IsObj _ vb v.list ∧ _).1) (fun _ => ?_)
          (try simp only [Act.put, List.setIfInBounds_toArray, List.set_cons_zero, List.set_cons_succ])
          clear hK K
          refine seqT_done ?_
          go_wp2_with fail
          replace HN := Lib.hid HN.out.drew
          refine wp_region_seqT (fun w' => w'.cell? ⟨vb, 0, none⟩ = some (i64 v.kind) ∧ w'.cell? ⟨vb, 1, none⟩ = some (i64 v.who) ∧ w'.cell? ⟨vb, 2, none⟩ = some (i64 v.n) ∧ w'.cell? ⟨vb, 3, none⟩ = some (i64 v.start) ∧ w'.cell? ⟨vb, 4, none⟩ = some (.bool v.take) ∧ w'.cell? ⟨vb, 5, none⟩ = some (.bool v.right) ∧ w'.cell? ⟨vb, 6, none⟩ = some (.int .u64 v.value) ∧ w'.cell? ⟨vb, 7, none⟩ = some (i64 v.odd)) (.take 0 (.take 2 (.two 1 (.one 3 (.one 4 (.one 5 (.take 6 (.one 7 .nil))))) 3 (.two 1 (.one 4 (.one 5 (.take 6 (.one 7 .nil)))) 4 (.one 1 (.one 5 (.take 6 (.one 7 .nil)))))))) (by kernel_rfl) (by kernel_rfl) (by kernel_rfl) (by decide) (fun _ _ _ _ _ h => h) (vcells (HN.out.has 6 _ rfl : IsObj _ vb v.list ∧ _).1) ?_
          repeat (refine seqT_take (v := ?_) rfl ?_ ?_ ?_; rotate_left 1; rfl; (focus (intro wS hSw; obtain ⟨x0, x1, x2, x3, x4, x5, x6, x7⟩ := hSw; go_simp; first | done | with_reducible rfl)); (try simp only [Act.put, List.setIfInBounds_toArray, List.set_cons_zero, List.set_cons_succ]))
          refine ⟨?_, ?_⟩
          · refine runT rfl (fun K hK => ?_)
            have s4 := (HN.out.has 4 _ rfl : IsObj _ s3 [i64 3, i64 2, i64 0, i64 3, .slice A3 (i) cp3] ∧ _).1.at' 4 _ rfl
            go_simp
            clear s4
            refine hK.out _ _ (vcells (HN.out.has 6 _ rfl : IsObj _ vb v.list ∧ _).1) (fun _ => ?_)
            (try simp only [Act.put, List.setIfInBounds_toArray, List.set_cons_zero, List.set_cons_succ])
            clear hK K
            refine runT rfl (fun K hK => ?_)
            go_simp
            go_at_call 10
            refine (HMK.out _).mono ?_
            rintro r w3 ⟨rfl, hb3⟩
            (try go_wp2_with fail)
            replace HN := Lib.hid (HN.out.later hb3)
            clear hb3
            refine hK.out _ _ (vcells (HN.out.has 6 _ rfl : IsObj _ vb v.list ∧ _).1) (fun _ => ?_)
            (try simp only [Act.put, List.setIfInBounds_toArray, List.set_cons_zero, List.set_cons_succ])
            clear hK K
            refine runT rfl (fun K hK => ?_)
            go_simp
            replace HN := Lib.hid (HN.out.later (below_new (Below.refl _ _) (m.obj 40)))
            refine hK.out _ _ (vcells (HN.out.has 6 _ rfl : IsObj _ vb v.list ∧ _).1) (fun _ => ?_)
            (try simp only [Act.put, List.setIfInBounds_toArray, List.set_cons_zero, List.set_cons_succ])
            clear hK K
            refine runT rfl (fun K hK => ?_)
            refine step_append_grew rfl _ _ 27 rfl w1.heap.size 40 _ 7 56 elem_cm (.slice A3 (i) cp3) (i) (flatM (mkL (V.take i))) rfl (HN.out.has 5 _ rfl) (some ⟨_, 0, none⟩) 1 1 m.list rfl (src7_at _ _ m (by simp)) (by unfold maxLen; omega) (by omega) HN.out.size ?_
            intro v' w8 hG
            obtain ⟨A6, cp6, rfl⟩ := own_shape hG.own
            replace HN := Lib.hid (HN.out.append 5 rfl rfl hG)
            clear hG
            refine hK.out _ _ (vcells (HN.out.has 6 _ rfl : IsObj _ vb v.list ∧ _).1) (fun _ => ?_)
            (try simp only [Act.put, List.setIfInBounds_toArray, List.set_cons_zero, List.set_cons_succ])
            clear hK K
            repeat (refine seqT_take (v := ?_) rfl ?_ ?_ ?_; rotate_left 1; rfl; (focus (intro wS hSw; obtain ⟨x0, x1, x2, x3, x4, x5, x6, x7⟩ := hSw; go_simp; first | done | with_reducible rfl)); (try simp only [Act.put, List.setIfInBounds_toArray, List.set_cons_zero, List.set_cons_succ]))
            refine runT rfl (fun K hK => ?_)
            have hs8 := (HN.out.has 4 _ rfl : IsObj _ s3 [i64 3, i64 2, i64 0, i64 3, .slice A3 (i) cp3] ∧ _).1
            have z4 := hs8.at' 4 _ rfl
            have y4 := hs8.fz 4
            clear hs8
            go_simp
            replace HN := Lib.hid (HN.out.cdSet 4 rfl 4 (.slice A6 (i + 1) cp6))
            clear z4 y4
            refine hK.out _ _ (vcells (HN.out.has 6 _ rfl : IsObj _ vb v.list ∧ _).1) (fun _ => ?_)
            (try simp only [Act.put, List.setIfInBounds_toArray, List.set_cons_zero, List.set_cons_succ])
            clear hK K
            refine seqT_done ?_
            have HH9 : Hid (Hold w1 _ [tObj w1.heap.size s1 [i64 3, i64 2, i64 0, i64 3, .slice A5 (i + 1) cp5], tRow w1.heap.size 40 7 (.slice A5 (i + 1) cp5) (i + 1) (flatM (mkL (V.take (i + 1)))), tObj w1.heap.size s2 [i64 3, i64 2, i64 0, i64 3, .slice none (0) 0], tRow w1.heap.size 40 7 (.slice none (0) 0) (0) (flatM ([])), tObj w1.heap.size s3 [i64 3, i64 2, i64 0, i64 3, .slice A6 (i + 1) cp6], tRow w1.heap.size 40 7 (.slice A6 (i + 1) cp6) (i + 1) (flatM (mkL (V.take (i + 1))))]) := Lib.hid (by
              have h := HN.out.less (m := [_]) (l := [_, _, _, _, _, _])
              rw [HTK.out, flatM_append, show flatM [m] = m.list by rw [flatM, flatM, List.append_nil]]
              exact h)
            clear HN
            go_wp2_with fail
            go_roundw
            case rel => exact ⟨i + 1, A5, cp5, A6, cp6, by omega, by go_num, HH9⟩
            case measure => first | omega | (simp [RowKit.intOf]; done) | (simp [RowKit.intOf]; omega)
          · refine runT rfl (fun K hK => ?_)
            go_simp
            go_at_call 10
            refine (HMK.out _).mono ?_
            rintro r w3 ⟨rfl, hb3⟩
            (try go_wp2_with fail)
            replace HN := Lib.hid (HN.out.later hb3)
            clear hb3
            refine hK.out _ _ (vcells (HN.out.has 6 _ rfl : IsObj _ vb v.list ∧ _).1) (fun _ => ?_)
            (try simp only [Act.put, List.setIfInBounds_toArray, List.set_cons_zero, List.set_cons_succ])
            clear hK K
            refine ⟨?_, ?_⟩
            · refine runT rfl (fun K hK => ?_)
              have s4 := (HN.out.has 4 _ rfl : IsObj _ s3 [i64 3, i64 2, i64 0, i64 3, .slice A3 (i) cp3] ∧ _).1.at' 4 _ rfl
              go_simp
              clear s4
              refine hK.out _ _ (vcells (HN.out.has 6 _ rfl : IsObj _ vb v.list ∧ _).1) (fun _ => ?_)
              (try simp only [Act.put, List.setIfInBounds_toArray, List.set_cons_zero, List.set_cons_succ])
              clear hK K
              refine runT rfl (fun K hK => ?_)
              go_simp
              replace HN := Lib.hid (HN.out.later (below_new (Below.refl _ _) (m.obj 40)))
              refine hK.out _ _ (vcells (HN.out.has 6 _ rfl : IsObj _ vb v.list ∧ _).1) (fun _ => ?_)
              (try simp only [Act.put, List.setIfInBounds_toArray, List.set_cons_zero, List.set_cons_succ])
              clear hK K
              refine runT rfl (fun K hK => ?_)
              refine step_append_grew rfl _ _ 27 rfl w1.heap.size 40 _ 7 56 elem_cm (.slice A3 (i) cp3) (i) (flatM (mkL (V.take i))) rfl (HN.out.has 5 _ rfl) (some ⟨_, 0, none⟩) 1 1 m.list rfl (src7_at _ _ m (by simp)) (by unfold maxLen; omega) (by omega) HN.out.size ?_
              intro v' w8 hG
              obtain ⟨A6, cp6, rfl⟩ := own_shape hG.own
              replace HN := Lib.hid (HN.out.append 5 rfl rfl hG)
              clear hG
              refine hK.out _ _ (vcells (HN.out.has 6 _ rfl : IsObj _ vb v.list ∧ _).1) (fun _ => ?_)
              (try simp only [Act.put, List.setIfInBounds_toArray, List.set_cons_zero, List.set_cons_succ])
              clear hK K
              repeat (refine seqT_take (v := ?_) rfl ?_ ?_ ?_; rotate_left 1; rfl; (focus (intro wS hSw; obtain ⟨x0, x1, x2, x3, x4, x5, x6, x7⟩ := hSw; go_simp; first | done | with_reducible rfl)); (try simp only [Act.put, List.setIfInBounds_toArray, List.set_cons_zero, List.set_cons_succ]))
              refine runT rfl (fun K hK => ?_)
              have hs8 := (HN.out.has 4 _ rfl : IsObj _ s3 [i64 3, i64 2, i64 0, i64 3, .slice A3 (i) cp3] ∧ _).1
              have z4 := hs8.at' 4 _ rfl
              have y4 := hs8.fz 4
              clear hs8
              go_simp
              replace HN := Lib.hid (HN.out.cdSet 4 rfl 4 (.slice A6 (i + 1) cp6))
              clear z4 y4
              refine hK.out _ _ (vcells (HN.out.has 6 _ rfl : IsObj _ vb v.list ∧ _).1) (fun _ => ?_)
              (try simp only [Act.put, List.setIfInBounds_toArray, List.set_cons_zero, List.set_cons_succ])
              clear hK K
              refine seqT_done ?_
              have HH9 : Hid (Hold w1 _ [tObj w1.heap.size s1 [i64 3, i64 2, i64 0, i64 3, .slice A5 (i + 1) cp5], tRow w1.heap.size 40 7 (.slice A5 (i + 1) cp5) (i + 1) (flatM (mkL (V.take (i + 1)))), tObj w1.heap.size s2 [i64 3, i64 2, i64 0, i64 3, .slice none (0) 0], tRow w1.heap.size 40 7 (.slice none (0) 0) (0) (flatM ([])), tObj w1.heap.size s3 [i64 3, i64 2, i64 0, i64 3, .slice A6 (i + 1) cp6], tRow w1.heap.size 40 7 (.slice A6 (i + 1) cp6) (i + 1) (flatM (mkL (V.take (i + 1))))]) := Lib.hid (by
                have h := HN.out.less (m := [_]) (l := [_, _, _, _, _, _])
                rw [HTK.out, flatM_append, show flatM [m] = m.list by rw [flatM, flatM, List.append_nil]]
                exact h)
              clear HN
              go_wp2_with fail
              go_roundw
              case rel => exact ⟨i + 1, A5, cp5, A6, cp6, by omega, by go_num, HH9⟩
              case measure => first | omega | (simp [RowKit.intOf]; done) | (simp [RowKit.intOf]; omega)
            · refine runT rfl (fun K hK => ?_)
              go_simp
              replace HN := Lib.hid (HN.out.later (below_new (Below.refl _ _) (m.obj 40)))
              refine hK.out _ _ (vcells (HN.out.has 6 _ rfl : IsObj _ vb v.list ∧ _).1) (fun _ => ?_)
              (try simp only [Act.put, List.setIfInBounds_toArray, List.set_cons_zero, List.set_cons_succ])
              clear hK K
              refine runT rfl (fun K hK => ?_)
              have s4 := (HN.out.has 4 _ rfl : IsObj _ s3 [i64 3, i64 2, i64 0, i64 3, .slice A3 (i) cp3] ∧ _).1.at' 4 _ rfl
              go_simp
              clear s4
              refine hK.out _ _ (vcells (HN.out.has 6 _ rfl : IsObj _ vb v.list ∧ _).1) (fun _ => ?_)
              (try simp only [Act.put, List.setIfInBounds_toArray, List.set_cons_zero, List.set_cons_succ])
              clear hK K
              refine runT rfl (fun K hK => ?_)
              refine step_append_grew rfl _ _ 27 rfl w1.heap.size 40 _ 7 56 elem_cm (.slice A3 (i) cp3) (i) (flatM (mkL (V.take i))) rfl (HN.out.has 5 _ rfl) (some ⟨_, 0, none⟩) 1 1 m.list rfl (src7_at _ _ m (by simp)) (by unfold maxLen; omega) (by omega) HN.out.size ?_
              intro v' w8 hG
              obtain ⟨A6, cp6, rfl⟩ := own_shape hG.own
              replace HN := Lib.hid (HN.out.append 5 rfl rfl hG)
              clear hG
              refine hK.out _ _ (vcells (HN.out.has 6 _ rfl : IsObj _ vb v.list ∧ _).1) (fun _ => ?_)
              (try simp only [Act.put, List.setIfInBounds_toArray, List.set_cons_zero, List.set_cons_succ])
              clear hK K
              repeat (refine seqT_take (v := ?_) rfl ?_ ?_ ?_; rotate_left 1; rfl; (focus (intro wS hSw; obtain ⟨x0, x1, x2, x3, x4, x5, x6, x7⟩ := hSw; go_simp; first | done | with_reducible rfl)); (try simp only [Act.put, List.setIfInBounds_toArray, List.set_cons_zero, List.set_cons_succ]))
              refine runT rfl (fun K hK => ?_)
              have hs8 := (HN.out.has 4 _ rfl : IsObj _ s3 [i64 3, i64 2, i64 0, i64 3, .slice A3 (i) cp3] ∧ _).1
              have z4 := hs8.at' 4 _ rfl
              have y4 := hs8.fz 4
              clear hs8
              go_simp
              replace HN := Lib.hid (HN.out.cdSet 4 rfl 4 (.slice A6 (i + 1) cp6))
              clear z4 y4
              refine hK.out _ _ (vcells (HN.out.has 6 _ rfl : IsObj _ vb v.list ∧ _).1) (fun _ => ?_)
              (try simp only [Act.put, List.setIfInBounds_toArray, List.set_cons_zero, List.set_cons_succ])
              clear hK K
              refine seqT_done ?_
              have HH9 : Hid (Hold w1 _ [tObj w1.heap.size s1 [i64 3, i64 2, i64 0, i64 3, .slice A5 (i + 1) cp5], tRow w1.heap.size 40 7 (.slice A5 (i + 1) cp5) (i + 1) (flatM (mkL (V.take (i + 1)))), tObj w1.heap.size s2 [i64 3, i64 2, i64 0, i64 3, .slice none (0) 0], tRow w1.heap.size 40 7 (.slice none (0) 0) (0) (flatM ([])), tObj w1.heap.size s3 [i64 3, i64 2, i64 0, i64 3, .slice A6 (i + 1) cp6], tRow w1.heap.size 40 7 (.slice A6 (i + 1) cp6) (i + 1) (flatM (mkL (V.take (i + 1))))]) := Lib.hid (by
                have h := HN.out.less (m := [_]) (l := [_, _, _, _, _, _])
                rw [HTK.out, flatM_append, show flatM [m] = m.list by rw [flatM, flatM, List.append_nil]]
                exact h)
              clear HN
              go_wp2_with fail
              go_roundw
              case rel => exact ⟨i + 1, A5, cp5, A6, cp6, by omega, by go_num, HH9⟩
              case measure => first | omega | (simp [RowKit.intOf]; done) | (simp [RowKit.intOf]; omega)
    · obtain rfl : i = V.length := by omega
      have hnn : ¬ (V.length : Int) < (V.length : Int) := by omega
      rw [List.take_length] at HH
      have HH5 : Hid (Hold w1 wr [tObj w1.heap.size s1 [i64 3, i64 2, i64 0, i64 3, .slice A1 (V.length) cp1], tRow w1.heap.size 40 7 (.slice A1 (V.length) cp1) (V.length) (flatM (mkL V)), tObj w1.heap.size s2 [i64 3, i64 2, i64 0, i64 3, .slice none (0) 0], tRow w1.heap.size 40 7 (.slice none (0) 0) (0) (flatM (mkL (U.take (0)))), tObj w1.heap.size s3 [i64 3, i64 2, i64 0, i64 3, .slice A3 (V.length + 0) cp3], tRow w1.heap.size 40 7 (.slice A3 (V.length + 0) cp3) (V.length + 0) (flatM (mkL V ++ mkL (U.take (0))))]) := Lib.hid (by rw [List.take_zero, show mkL [] = [] from rfl, List.append_nil]; exact HH.out)
      clear HH
      go_wp2_with fail
      go_loopw [59] (fun iv wr => ∃ (i : Nat) (A2 : Option Addr) (cp2 : Nat) (A3 : Option Addr) (cp3 : Nat), i ≤ U.length ∧ iv = .int .i64 i ∧ Hid (Hold w1 wr [tObj w1.heap.size s1 [i64 3, i64 2, i64 0, i64 3, .slice A1 (V.length) cp1], tRow w1.heap.size 40 7 (.slice A1 (V.length) cp1) (V.length) (flatM (mkL V)), tObj w1.heap.size s2 [i64 3, i64 2, i64 0, i64 3, .slice A2 (i) cp2], tRow w1.heap.size 40 7 (.slice A2 (i) cp2) (i) (flatM (mkL (U.take (i)))), tObj w1.heap.size s3 [i64 3, i64 2, i64 0, i64 3, .slice A3 (V.length + i) cp3], tRow w1.heap.size 40 7 (.slice A3 (V.length + i) cp3) (V.length + i) (flatM (mkL V ++ mkL (U.take (i))))])) (fun iv _ => U.length - (RowKit.intOf iv).toNat)
      case atStart => exact ⟨0, none, 0, A3, cp3, Nat.zero_le _, rfl, HH5⟩
      case round =>
        clear HH5
        obtain ⟨i, A2, cp2, A3, cp3, hi, rfl, HH⟩ := hrel
        rcases Nat.lt_or_ge i U.length with hil | hil
        · have hil' : (i : Int) < (U.length : Int) := by omega
          obtain ⟨v, hv'⟩ : ∃ v, U[i]? = some v := ⟨_, List.getElem?_eq_getElem hil⟩
          obtain ⟨b, off, rfl, hat⟩ := HU1.out.at' i v hv'
          have HTK := Lib.hid (mkL_take hv')
          obtain ⟨e0, e1, e2, e3, e4, e5, e6, e7⟩ := hat.later (HH.out.below)
          have hcap := HU1.out.cap
          obtain ⟨m, hm⟩ : ∃ m, v.make = m := ⟨_, rfl⟩
          have HMK := Lib.hid (fun w => make18_any v w)
          rw [hm] at HMK HTK
          have HN := Lib.hid (HH.out.more (A := tObj w1.heap.size wr.heap.size v.list) (below_new (Below.refl _ _) (v.obj 33)) (tObj_ok _ _ _) ⟨IsObj.made wr v.list 33, HH.out.size⟩ (fun q hq => by cases hq; exact Nat.le_refl _))
          clear hat hv' hm HH
          go_wp2_with fail
          clear e0 e1 e2 e3 e4 e5 e6 e7
          generalize wr.alloc (v.obj 33) = wv at HN ⊢
          generalize wr.heap.size = vb at HN ⊢
          replace HN := Lib.hid HN.out.drew
          refine wp_region_seqT (fun w' => w'.cell? ⟨vb, 0, none⟩ = some (i64 v.kind) ∧ w'.cell? ⟨vb, 1, none⟩ = some (i64 v.who) ∧ w'.cell? ⟨vb, 2, none⟩ = some (i64 v.n) ∧ w'.cell? ⟨vb, 3, none⟩ = some (i64 v.start) ∧ w'.cell? ⟨vb, 4, none⟩ = some (.bool v.take) ∧ w'.cell? ⟨vb, 5, none⟩ = some (.bool v.right) ∧ w'.cell? ⟨vb, 6, none⟩ = some (.int .u64 v.value) ∧ w'.cell? ⟨vb, 7, none⟩ = some (i64 v.odd)) (.take 0 (.take 2 (.two 1 (.one 3 (.one 4 (.one 5 (.take 6 (.one 7 .nil))))) 3 (.two 1 (.one 4 (.one 5 (.take 6 (.one 7 .nil)))) 4 (.one 1 (.one 5 (.take 6 (.one 7 .nil)))))))) (by kernel_rfl) (by kernel_rfl) (by kernel_rfl) (by decide) (fun _ _ _ _ _ h => h) (vcells (HN.out.has 6 _ rfl : IsObj _ vb v.list ∧ _).1) ?_
          repeat (refine seqT_take (v := ?_) rfl ?_ ?_ ?_; rotate_left 1; rfl; (focus (intro wS hSw; obtain ⟨x0, x1, x2, x3, x4, x5, x6, x7⟩ := hSw; go_simp; first | done | with_reducible rfl)); (try simp only [Act.put, List.setIfInBounds_toArray, List.set_cons_zero, List.set_cons_succ]))
          refine ⟨?_, ?_⟩
          · refine runT rfl (fun K hK => ?_)
            have s4 := (HN.out.has 2 _ rfl : IsObj _ s2 [i64 3, i64 2, i64 0, i64 3, .slice A2 (i) cp2] ∧ _).1.at' 4 _ rfl
            go_simp
            clear s4
            refine hK.out _ _ (vcells (HN.out.has 6 _ rfl : IsObj _ vb v.list ∧ _).1) (fun _ => ?_)
            (try simp only [Act.put, List.setIfInBounds_toArray, List.set_cons_zero, List.set_cons_succ])
            clear hK K
            refine runT rfl (fun K hK => ?_)
            go_simp
            go_at_call 10
            refine (HMK.out _).mono ?_
            rintro r w3 ⟨rfl, hb3⟩
            (try go_wp2_with fail)
            replace HN := Lib.hid (HN.out.later hb3)
            clear hb3
            refine hK.out _ _ (vcells (HN.out.has 6 _ rfl : IsObj _ vb v.list ∧ _).1) (fun _ => ?_)
            (try simp only [Act.put, List.setIfInBounds_toArray, List.set_cons_zero, List.set_cons_succ])
            clear hK K
            refine runT rfl (fun K hK => ?_)
            go_simp
            replace HN := Lib.hid (HN.out.later (below_new (Below.refl _ _) (m.obj 40)))
            refine hK.out _ _ (vcells (HN.out.has 6 _ rfl : IsObj _ vb v.list ∧ _).1) (fun _ => ?_)
            (try simp only [Act.put, List.setIfInBounds_toArray, List.set_cons_zero, List.set_cons_succ])
            clear hK K
            refine runT rfl (fun K hK => ?_)
            refine step_append_grew rfl _ _ 27 rfl w1.heap.size 40 _ 7 56 elem_cm (.slice A2 (i) cp2) (i) (flatM (mkL (U.take i))) rfl (HN.out.has 3 _ rfl) (some ⟨_, 0, none⟩) 1 1 m.list rfl (src7_at _ _ m (by simp)) (by unfold maxLen; omega) (by omega) HN.out.size ?_
            intro v' w8 hG
            obtain ⟨A5, cp5, rfl⟩ := own_shape hG.own
            replace HN := Lib.hid (HN.out.append 3 rfl rfl hG)
            clear hG
            refine hK.out _ _ (vcells (HN.out.has 6 _ rfl : IsObj _ vb v.list ∧ _).1) (fun _ => ?_)
            (try simp only [Act.put, List.setIfInBounds_toArray, List.set_cons_zero, List.set_cons_succ])
            clear hK K
            repeat (refine seqT_take (v := ?_) rfl ?_ ?_ ?_; rotate_left 1; rfl; (focus (intro wS hSw; obtain ⟨x0, x1, x2, x3, x4, x5, x6, x7⟩ := hSw; go_simp; first | done | with_reducible rfl)); (try simp only [Act.put, List.setIfInBounds_toArray, List.set_cons_zero, List.set_cons_succ]))
            refine runT rfl (fun K hK => ?_)
            have hs8 := (HN.out.has 2 _ rfl : IsObj _ s2 [i64 3, i64 2, i64 0, i64 3, .slice A2 (i) cp2] ∧ _).1
            have z4 := hs8.at' 4 _ rfl
            have y4 := hs8.fz 4
            clear hs8
            go_simp
            replace HN := Lib.hid (HN.out.cdSet 2 rfl 4 (.slice A5 (i + 1) cp5))
            clear z4 y4
            refine hK.out _ _ (vcells (HN.out.has 6 _ rfl : IsObj _ vb v.list ∧ _).1) (fun _ => ?_)
            (try simp only [Act.put, List.setIfInBounds_toArray, List.set_cons_zero, List.set_cons_succ])
            clear hK K
            refine seqT_done ?_
            go_wp2_with fail
            replace HN := Lib.hid HN.out.drew
            refine wp_region_seqT (fun w' => w'.cell? ⟨vb, 0, none⟩ = some (i64 v.kind) ∧ w'.cell? ⟨vb, 1, none⟩ = some (i64 v.who) ∧ w'.cell? ⟨vb, 2, none⟩ = some (i64 v.n) ∧ w'.cell? ⟨vb, 3, none⟩ = some (i64 v.start) ∧ w'.cell? ⟨vb, 4, none⟩ = some (.bool v.take) ∧ w'.cell? ⟨vb, 5, none⟩ = some (.bool v.right) ∧ w'.cell? ⟨vb, 6, none⟩ = some (.int .u64 v.value) ∧ w'.cell? ⟨vb, 7, none⟩ = some (i64 v.odd)) (.take 0 (.take 2 (.two 1 (.one 3 (.one 4 (.one 5 (.take 6 (.one 7 .nil))))) 3 (.two 1 (.one 4 (.one 5 (.take 6 (.one 7 .nil)))) 4 (.one 1 (.one 5 (.take 6 (.one 7 .nil)))))))) (by kernel_rfl) (by kernel_rfl) (by kernel_rfl) (by decide) (fun _ _ _ _ _ h => h) (vcells (HN.out.has 6 _ rfl : IsObj _ vb v.list ∧ _).1) ?_
            repeat (refine seqT_take (v := ?_) rfl ?_ ?_ ?_; rotate_left 1; rfl; (focus (intro wS hSw; obtain ⟨x0, x1, x2, x3, x4, x5, x6, x7⟩ := hSw; go_simp; first | done | with_reducible rfl)); (try simp only [Act.put, List.setIfInBounds_toArray, List.set_cons_zero, List.set_cons_succ]))
            refine ⟨?_, ?_⟩
            · refine runT rfl (fun K hK => ?_)
              have s4 := (HN.out.has 4 _ rfl : IsObj _ s3 [i64 3, i64 2, i64 0, i64 3, .slice A3 (V.length + i) cp3] ∧ _).1.at' 4 _ rfl
              go_simp
              clear s4
              refine hK.out _ _ (vcells (HN.out.has 6 _ rfl : IsObj _ vb v.list ∧ _).1) (fun _ => ?_)
              (try simp only [Act.put, List.setIfInBounds_toArray, List.set_cons_zero, List.set_cons_succ])
              clear hK K
              refine runT rfl (fun K hK => ?_)
              go_simp
              go_at_call 10
              refine (HMK.out _).mono ?_
              rintro r w3 ⟨rfl, hb3⟩
              (try go_wp2_with fail)
              replace HN := Lib.hid (HN.out.later hb3)
              clear hb3
              refine hK.out _ _ (vcells (HN.out.has 6 _ rfl : IsObj _ vb v.list ∧ _).1) (fun _ => ?_)
              (try simp only [Act.put, List.setIfInBounds_toArray, List.set_cons_zero, List.set_cons_succ])
              clear hK K
              refine runT rfl (fun K hK => ?_)
              go_simp
              replace HN := Lib.hid (HN.out.later (below_new (Below.refl _ _) (m.obj 40)))
              refine hK.out _ _ (vcells (HN.out.has 6 _ rfl : IsObj _ vb v.list ∧ _).1) (fun _ => ?_)
              (try simp only [Act.put, List.setIfInBounds_toArray, List.set_cons_zero, List.set_cons_succ])
              clear hK K
              refine runT rfl (fun K hK => ?_)
              refine step_append_grew rfl _ _ 27 rfl w1.heap.size 40 _ 7 56 elem_cm (.slice A3 (V.length + i) cp3) (V.length + i) (flatM (mkL V ++ mkL (U.take i))) rfl (HN.out.has 5 _ rfl) (some ⟨_, 0, none⟩) 1 1 m.list rfl (src7_at _ _ m (by simp)) (by unfold maxLen; omega) (by omega) HN.out.size ?_
              intro v' w8 hG
              obtain ⟨A6, cp6, rfl⟩ := own_shape hG.own
              replace HN := Lib.hid (HN.out.append 5 rfl rfl hG)
              clear hG
              refine hK.out _ _ (vcells (HN.out.has 6 _ rfl : IsObj _ vb v.list ∧ _).1) (fun _ => ?_)
              (try simp only [Act.put, List.setIfInBounds_toArray, List.set_cons_zero, List.set_cons_succ])
              clear hK K
              repeat (refine seqT_take (v := ?_) rfl ?_ ?_ ?_; rotate_left 1; rfl; (focus (intro wS hSw; obtain ⟨x0, x1, x2, x3, x4, x5, x6, x7⟩ := hSw; go_simp; first | done | with_reducible rfl)); (try simp only [Act.put, List.setIfInBounds_toArray, List.set_cons_zero, List.set_cons_succ]))
              refine runT rfl (fun K hK => ?_)
              have hs8 := (HN.out.has 4 _ rfl : IsObj _ s3 [i64 3, i64 2, i64 0, i64 3, .slice A3 (V.length + i) cp3] ∧ _).1
              have z4 := hs8.at' 4 _ rfl
              have y4 := hs8.fz 4
              clear hs8
              go_simp
              replace HN := Lib.hid (HN.out.cdSet 4 rfl 4 (.slice A6 (V.length + i + 1) cp6))
              clear z4 y4
              refine hK.out _ _ (vcells (HN.out.has 6 _ rfl : IsObj _ vb v.list ∧ _).1) (fun _ => ?_)
              (try simp only [Act.put, List.setIfInBounds_toArray, List.set_cons_zero, List.set_cons_succ])
              clear hK K
              refine seqT_done ?_
              have HH9 : Hid (Hold w1 _ [tObj w1.heap.size s1 [i64 3, i64 2, i64 0, i64 3, .slice A1 (V.length) cp1], tRow w1.heap.size 40 7 (.slice A1 (V.length) cp1) (V.length) (flatM (mkL V)), tObj w1.heap.size s2 [i64 3, i64 2, i64 0, i64 3, .slice A5 (i + 1) cp5], tRow w1.heap.size 40 7 (.slice A5 (i + 1) cp5) (i + 1) (flatM (mkL (U.take (i + 1)))), tObj w1.heap.size s3 [i64 3, i64 2, i64 0, i64 3, .slice A6 (V.length + (i + 1)) cp6], tRow w1.heap.size 40 7 (.slice A6 (V.length + (i + 1)) cp6) (V.length + (i + 1)) (flatM (mkL V ++ mkL (U.take (i + 1))))]) := Lib.hid (by
                have h := HN.out.less (m := [_]) (l := [_, _, _, _, _, _])
                rw [HTK.out, ← List.append_assoc, flatM_append (mkL (U.take i)), flatM_append (mkL V ++ mkL (U.take i)), show flatM [m] = m.list by rw [flatM, flatM, List.append_nil]]
                exact h)
              clear HN
              go_wp2_with fail
              go_roundw
              case rel => exact ⟨i + 1, A5, cp5, A6, cp6, by omega, by go_num, HH9⟩
              case measure => first | omega | (simp [RowKit.intOf]; done) | (simp [RowKit.intOf]; omega)
            · refine runT rfl (fun K hK => ?_)
              go_simp
              go_at_call 10
              refine (HMK.out _).mono ?_
              rintro r w3 ⟨rfl, hb3⟩
              (try go_wp2_with fail)
              replace HN := Lib.hid (HN.out.later hb3)
              clear hb3
              refine hK.out _ _ (vcells (HN.out.has 6 _ rfl : IsObj _ vb v.list ∧ _).1) (fun _ => ?_)
              (try simp only [Act.put, List.setIfInBounds_toArray, List.set_cons_zero, List.set_cons_succ])
              clear hK K
              refine ⟨?_, ?_⟩
              · refine runT rfl (fun K hK => ?_)
                have s4 := (HN.out.has 4 _ rfl : IsObj _ s3 [i64 3, i64 2, i64 0, i64 3, .slice A3 (V.length + i) cp3] ∧ _).1.at' 4 _ rfl
                go_simp
                clear s4
                refine hK.out _ _ (vcells (HN.out.has 6 _ rfl : IsObj _ vb v.list ∧ _).1) (fun _ => ?_)
                (try simp only [Act.put, List.setIfInBounds_toArray, List.set_cons_zero, List.set_cons_succ])
                clear hK K
                refine runT rfl (fun K hK => ?_)
                go_simp
                replace HN := Lib.hid (HN.out.later (below_new (Below.refl _ _) (m.obj 40)))
                refine hK.out _ _ (vcells (HN.out.has 6 _ rfl : IsObj _ vb v.list ∧ _).1) (fun _ => ?_)
                (try simp only [Act.put, List.setIfInBounds_toArray, List.set_cons_zero, List.set_cons_succ])
                clear hK K
                refine runT rfl (fun K hK => ?_)
                refine step_append_grew rfl _ _ 27 rfl w1.heap.size 40 _ 7 56 elem_cm (.slice A3 (V.length + i) cp3) (V.length + i) (flatM (mkL V ++ mkL (U.take i))) rfl (HN.out.has 5 _ rfl) (some ⟨_, 0, none⟩) 1 1 m.list rfl (src7_at _ _ m (by simp)) (by unfold maxLen; omega) (by omega) HN.out.size ?_
                intro v' w8 hG
                obtain ⟨A6, cp6, rfl⟩ := own_shape hG.own
                replace HN := Lib.hid (HN.out.append 5 rfl rfl hG)
                clear hG
                refine hK.out _ _ (vcells (HN.out.has 6 _ rfl : IsObj _ vb v.list ∧ _).1) (fun _ => ?_)
                (try simp only [Act.put, List.setIfInBounds_toArray, List.set_cons_zero, List.set_cons_succ])
                clear hK K
                repeat (refine seqT_take (v := ?_) rfl ?_ ?_ ?_; rotate_left 1; rfl; (focus (intro wS hSw; obtain ⟨x0, x1, x2, x3, x4, x5, x6, x7⟩ := hSw; go_simp; first | done | with_reducible rfl)); (try simp only [Act.put, List.setIfInBounds_toArray, List.set_cons_zero, List.set_cons_succ]))
                refine runT rfl (fun K hK => ?_)
                have hs8 := (HN.out.has 4 _ rfl : IsObj _ s3 [i64 3, i64 2, i64 0, i64 3, .slice A3 (V.length + i) cp3] ∧ _).1
                have z4 := hs8.at' 4 _ rfl
                have y4 := hs8.fz 4
                clear hs8
                go_simp
                replace HN := Lib.hid (HN.out.cdSet 4 rfl 4 (.slice A6 (V.length + i + 1) cp6))
                clear z4 y4
                refine hK.out _ _ (vcells (HN.out.has 6 _ rfl : IsObj _ vb v.list ∧ _).1) (fun _ => ?_)
                (try simp only [Act.put, List.setIfInBounds_toArray, List.set_cons_zero, List.set_cons_succ])
                clear hK K
                refine seqT_done ?_
                have HH9 : Hid (Hold w1 _ [tObj w1.heap.size s1 [i64 3, i64 2, i64 0, i64 3, .slice A1 (V.length) cp1], tRow w1.heap.size 40 7 (.slice A1 (V.length) cp1) (V.length) (flatM (mkL V)), tObj w1.heap.size s2 [i64 3, i64 2, i64 0, i64 3, .slice A5 (i + 1) cp5], tRow w1.heap.size 40 7 (.slice A5 (i + 1) cp5) (i + 1) (flatM (mkL (U.take (i + 1)))), tObj w1.heap.size s3 [i64 3, i64 2, i64 0, i64 3, .slice A6 (V.length + (i + 1)) cp6], tRow w1.heap.size 40 7 (.slice A6 (V.length + (i + 1)) cp6) (V.length + (i + 1)) (flatM (mkL V ++ mkL (U.take (i + 1))))]) := Lib.hid (by
                  have h := HN.out.less (m := [_]) (l := [_, _, _, _, _, _])
                  rw [HTK.out, ← List.append_assoc, flatM_append (mkL (U.take i)), flatM_append (mkL V ++ mkL (U.take i)), show flatM [m] = m.list by rw [flatM, flatM, List.append_nil]]
                  exact h)
                clear HN
                go_wp2_with fail
                go_roundw
                case rel => exact ⟨i + 1, A5, cp5, A6, cp6, by omega, by go_num, HH9⟩
                case measure => first | omega | (simp [RowKit.intOf]; done) | (simp [RowKit.intOf]; omega)
              · refine runT rfl (fun K hK => ?_)
                go_simp
                replace HN := Lib.hid (HN.out.later (below_new (Below.refl _ _) (m.obj 40)))
                refine hK.out _ _ (vcells (HN.out.has 6 _ rfl : IsObj _ vb v.list ∧ _).1) (fun _ => ?_)
                (try simp only [Act.put, List.setIfInBounds_toArray, List.set_cons_zero, List.set_cons_succ])
                clear hK K
                refine runT rfl (fun K hK => ?_)
                have s4 := (HN.out.has 4 _ rfl : IsObj _ s3 [i64 3, i64 2, i64 0, i64 3, .slice A3 (V.length + i) cp3] ∧ _).1.at' 4 _ rfl
                go_simp
                clear s4
                refine hK.out _ _ (vcells (HN.out.has 6 _ rfl : IsObj _ vb v.list ∧ _).1) (fun _ => ?_)
                (try simp only [Act.put, List.setIfInBounds_toArray, List.set_cons_zero, List.set_cons_succ])
                clear hK K
                refine runT rfl (fun K hK => ?_)
                refine step_append_grew rfl _ _ 27 rfl w1.heap.size 40 _ 7 56 elem_cm (.slice A3 (V.length + i) cp3) (V.length + i) (flatM (mkL V ++ mkL (U.take i))) rfl (HN.out.has 5 _ rfl) (some ⟨_, 0, none⟩) 1 1 m.list rfl (src7_at _ _ m (by simp)) (by unfold maxLen; omega) (by omega) HN.out.size ?_
                intro v' w8 hG
                obtain ⟨A6, cp6, rfl⟩ := own_shape hG.own
                replace HN := Lib.hid (HN.out.append 5 rfl rfl hG)
                clear hG
                refine hK.out _ _ (vcells (HN.out.has 6 _ rfl : IsObj _ vb v.list ∧ _).1) (fun _ => ?_)
                (try simp only [Act.put, List.setIfInBounds_toArray, List.set_cons_zero, List.set_cons_succ])
                clear hK K
                repeat (refine seqT_take (v := ?_) rfl ?_ ?_ ?_; rotate_left 1; rfl; (focus (intro wS hSw; obtain ⟨x0, x1, x2, x3, x4, x5, x6, x7⟩ := hSw; go_simp; first | done | with_reducible rfl)); (try simp only [Act.put, List.setIfInBounds_toArray, List.set_cons_zero, List.set_cons_succ]))
                refine runT rfl (fun K hK => ?_)
                have hs8 := (HN.out.has 4 _ rfl : IsObj _ s3 [i64 3, i64 2, i64 0, i64 3, .slice A3 (V.length + i) cp3] ∧ _).1
                have z4 := hs8.at' 4 _ rfl
                have y4 := hs8.fz 4
                clear hs8
                go_simp
                replace HN := Lib.hid (HN.out.cdSet 4 rfl 4 (.slice A6 (V.length + i + 1) cp6))
                clear z4 y4
                refine hK.out _ _ (vcells (HN.out.has 6 _ rfl : IsObj _ vb v.list ∧ _).1) (fun _ => ?_)
                (try simp only [Act.put, List.setIfInBounds_toArray, List.set_cons_zero, List.set_cons_succ])
                clear hK K
                refine seqT_done ?_
                have HH9 : Hid (Hold w1 _ [tObj w1.heap.size s1 [i64 3, i64 2, i64 0, i64 3, .slice A1 (V.length) cp1], tRow w1.heap.size 40 7 (.slice A1 (V.length) cp1) (V.length) (flatM (mkL V)), tObj w1.heap.size s2 [i64 3, i64 2, i64 0, i64 3, .slice A5 (i + 1) cp5], tRow w1.heap.size 40 7 (.slice A5 (i + 1) cp5) (i + 1) (flatM (mkL (U.take (i + 1)))), tObj w1.heap.size s3 [i64 3, i64 2, i64 0, i64 3, .slice A6 (V.length + (i + 1)) cp6], tRow w1.heap.size 40 7 (.slice A6 (V.length + (i + 1)) cp6) (V.length + (i + 1)) (flatM (mkL V ++ mkL (U.take (i + 1))))]) := Lib.hid (by
                  have h := HN.out.less (m := [_]) (l := [_, _, _, _, _, _])
                  rw [HTK.out, ← List.append_assoc, flatM_append (mkL (U.take i)), flatM_append (mkL V ++ mkL (U.take i)), show flatM [m] = m.list by rw [flatM, flatM, List.append_nil]]
                  exact h)
                clear HN
                go_wp2_with fail
                go_roundw
                case rel => exact ⟨i + 1, A5, cp5, A6, cp6, by omega, by go_num, HH9⟩
                case measure => first | omega | (simp [RowKit.intOf]; done) | (simp [RowKit.intOf]; omega)
          · refine runT rfl (fun K hK => ?_)
            go_simp
            go_at_call 10
            refine (HMK.out _).mono ?_
            rintro r w3 ⟨rfl, hb3⟩
            (try go_wp2_with fail)
            replace HN := Lib.hid (HN.out.later hb3)
            clear hb3
            refine hK.out _ _ (vcells (HN.out.has 6 _ rfl : IsObj _ vb v.list ∧ _).1) (fun _ => ?_)
            (try simp only [Act.put, List.setIfInBounds_toArray, List.set_cons_zero, List.set_cons_succ])
            clear hK K
            refine ⟨?_, ?_⟩
            · refine runT rfl (fun K hK => ?_)
              have s4 := (HN.out.has 2 _ rfl : IsObj _ s2 [i64 3, i64 2, i64 0, i64 3, .slice A2 (i) cp2] ∧ _).1.at' 4 _ rfl
              go_simp
              clear s4
              refine hK.out _ _ (vcells (HN.out.has 6 _ rfl : IsObj _ vb v.list ∧ _).1) (fun _ => ?_)
              (try simp only [Act.put, List.setIfInBounds_toArray, List.set_cons_zero, List.set_cons_succ])
              clear hK K
              refine runT rfl (fun K hK => ?_)
              go_simp
              replace HN := Lib.hid (HN.out.later (below_new (Below.refl _ _) (m.obj 40)))
              refine hK.out _ _ (vcells (HN.out.has 6 _ rfl : IsObj _ vb v.list ∧ _).1) (fun _ => ?_)
              (try simp only [Act.put, List.setIfInBounds_toArray, List.set_cons_zero, List.set_cons_succ])
              clear hK K
              refine runT rfl (fun K hK => ?_)
              refine step_append_grew rfl _ _ 27 rfl w1.heap.size 40 _ 7 56 elem_cm (.slice A2 (i) cp2) (i) (flatM (mkL (U.take i))) rfl (HN.out.has 3 _ rfl) (some ⟨_, 0, none⟩) 1 1 m.list rfl (src7_at _ _ m (by simp)) (by unfold maxLen; omega) (by omega) HN.out.size ?_
              intro v' w8 hG
              obtain ⟨A5, cp5, rfl⟩ := own_shape hG.own
              replace HN := Lib.hid (HN.out.append 3 rfl rfl hG)
              clear hG
              refine hK.out _ _ (vcells (HN.out.has 6 _ rfl : IsObj _ vb v.list ∧ _).1) (fun _ => ?_)
              (try simp only [Act.put, List.setIfInBounds_toArray, List.set_cons_zero, List.set_cons_succ])
              clear hK K
              repeat (refine seqT_take (v := ?_) rfl ?_ ?_ ?_; rotate_left 1; rfl; (focus (intro wS hSw; obtain ⟨x0, x1, x2, x3, x4, x5, x6, x7⟩ := hSw; go_simp; first | done | with_reducible rfl)); (try simp only [Act.put, List.setIfInBounds_toArray, List.set_cons_zero, List.set_cons_succ]))
              refine runT rfl (fun K hK => ?_)
              have hs8 := (HN.out.has 2 _ rfl : IsObj _ s2 [i64 3, i64 2, i64 0, i64 3, .slice A2 (i) cp2] ∧ _).1
              have z4 := hs8.at' 4 _ rfl
              have y4 := hs8.fz 4
              clear hs8
              go_simp
              replace HN := Lib.hid (HN.out.cdSet 2 rfl 4 (.slice A5 (i + 1) cp5))
              clear z4 y4
              refine hK.out _ _ (vcells (HN.out.has 6 _ rfl : IsObj _ vb v.list ∧ _).1) (fun _ => ?_)
              (try simp only [Act.put, List.setIfInBounds_toArray, List.set_cons_zero, List.set_cons_succ])
              clear hK K
              refine seqT_done ?_
              go_wp2_with fail
              replace HN := Lib.hid HN.out.drew
              refine wp_region_seqT (fun w' => w'.cell? ⟨vb, 0, none⟩ = some (i64 v.kind) ∧ w'.cell? ⟨vb, 1, none⟩ = some (i64 v.who) ∧ w'.cell? ⟨vb, 2, none⟩ = some (i64 v.n) ∧ w'.cell? ⟨vb, 3, none⟩ = some (i64 v.start) ∧ w'.cell? ⟨vb, 4, none⟩ = some (.bool v.take) ∧ w'.cell? ⟨vb, 5, none⟩ = some (.bool v.right) ∧ w'.cell? ⟨vb, 6, none⟩ = some (.int .u64 v.value) ∧ w'.cell? ⟨vb, 7, none⟩ = some (i64 v.odd)) (.take 0 (.take 2 (.two 1 (.one 3 (.one 4 (.one 5 (.take 6 (.one 7 .nil))))) 3 (.two 1 (.one 4 (.one 5 (.take 6 (.one 7 .nil)))) 4 (.one 1 (.one 5 (.take 6 (.one 7 .nil)))))))) (by kernel_rfl) (by kernel_rfl) (by kernel_rfl) (by decide) (fun _ _ _ _ _ h => h) (vcells (HN.out.has 6 _ rfl : IsObj _ vb v.list ∧ _).1) ?_
              repeat (refine seqT_take (v := ?_) rfl ?_ ?_ ?_; rotate_left 1; rfl; (focus (intro wS hSw; obtain ⟨x0, x1, x2, x3, x4, x5, x6, x7⟩ := hSw; go_simp; first | done | with_reducible rfl)); (try simp only [Act.put, List.setIfInBounds_toArray, List.set_cons_zero, List.set_cons_succ]))
              refine ⟨?_, ?_⟩
              · refine runT rfl (fun K hK => ?_)
                have s4 := (HN.out.has 4 _ rfl : IsObj _ s3 [i64 3, i64 2, i64 0, i64 3, .slice A3 (V.length + i) cp3] ∧ _).1.at' 4 _ rfl
                go_simp
                clear s4
                refine hK.out _ _ (vcells (HN.out.has 6 _ rfl : IsObj _ vb v.list ∧ _).1) (fun _ => ?_)
                (try simp only [Act.put, List.setIfInBounds_toArray, List.set_cons_zero, List.set_cons_succ])
                clear hK K
                refine runT rfl (fun K hK => ?_)
                go_simp
                go_at_call 10
                refine (HMK.out _).mono ?_
                rintro r w3 ⟨rfl, hb3⟩
                (try go_wp2_with fail)
                replace HN := Lib.hid (HN.out.later hb3)
                clear hb3
                refine hK.out _ _ (vcells (HN.out.has 6 _ rfl : IsObj _ vb v.list ∧ _).1) (fun _ => ?_)
                (try simp only [Act.put, List.setIfInBounds_toArray, List.set_cons_zero, List.set_cons_succ])
                clear hK K
                refine runT rfl (fun K hK => ?_)
                go_simp
                replace HN := Lib.hid (HN.out.later (below_new (Below.refl _ _) (m.obj 40)))
                refine hK.out _ _ (vcells (HN.out.has 6 _ rfl : IsObj _ vb v.list ∧ _).1) (fun _ => ?_)
                (try simp only [Act.put, List.setIfInBounds_toArray, List.set_cons_zero, List.set_cons_succ])
                clear hK K
                refine runT rfl (fun K hK => ?_)
                refine step_append_grew rfl _ _ 27 rfl w1.heap.size 40 _ 7 56 elem_cm (.slice A3 (V.length + i) cp3) (V.length + i) (flatM (mkL V ++ mkL (U.take i))) rfl (HN.out.has 5 _ rfl) (some ⟨_, 0, none⟩) 1 1 m.list rfl (src7_at _ _ m (by simp)) (by unfold maxLen; omega) (by omega) HN.out.size ?_
                intro v' w8 hG
                obtain ⟨A6, cp6, rfl⟩ := own_shape hG.own
                replace HN := Lib.hid (HN.out.append 5 rfl rfl hG)
                clear hG
                refine hK.out _ _ (vcells (HN.out.has 6 _ rfl : IsObj _ vb v.list ∧ _).1) (fun _ => ?_)
                (try simp only [Act.put, List.setIfInBounds_toArray, List.set_cons_zero, List.set_cons_succ])
                clear hK K
                repeat (refine seqT_take (v := ?_) rfl ?_ ?_ ?_; rotate_left 1; rfl; (focus (intro wS hSw; obtain ⟨x0, x1, x2, x3, x4, x5, x6, x7⟩ := hSw; go_simp; first | done | with_reducible rfl)); (try simp only [Act.put, List.setIfInBounds_toArray, List.set_cons_zero, List.set_cons_succ]))
                refine runT rfl (fun K hK => ?_)
                have hs8 := (HN.out.has 4 _ rfl : IsObj _ s3 [i64 3, i64 2, i64 0, i64 3, .slice A3 (V.length + i) cp3] ∧ _).1
                have z4 := hs8.at' 4 _ rfl
                have y4 := hs8.fz 4
                clear hs8
                go_simp
                replace HN := Lib.hid (HN.out.cdSet 4 rfl 4 (.slice A6 (V.length + i + 1) cp6))
                clear z4 y4
                refine hK.out _ _ (vcells (HN.out.has 6 _ rfl : IsObj _ vb v.list ∧ _).1) (fun _ => ?_)
                (try simp only [Act.put, List.setIfInBounds_toArray, List.set_cons_zero, List.set_cons_succ])
                clear hK K
                refine seqT_done ?_
                have HH9 : Hid (Hold w1 _ [tObj w1.heap.size s1 [i64 3, i64 2, i64 0, i64 3, .slice A1 (V.length) cp1], tRow w1.heap.size 40 7 (.slice A1 (V.length) cp1) (V.length) (flatM (mkL V)), tObj w1.heap.size s2 [i64 3, i64 2, i64 0, i64 3, .slice A5 (i + 1) cp5], tRow w1.heap.size 40 7 (.slice A5 (i + 1) cp5) (i + 1) (flatM (mkL (U.take (i + 1)))), tObj w1.heap.size s3 [i64 3, i64 2, i64 0, i64 3, .slice A6 (V.length + (i + 1)) cp6], tRow w1.heap.size 40 7 (.slice A6 (V.length + (i + 1)) cp6) (V.length + (i + 1)) (flatM (mkL V ++ mkL (U.take (i + 1))))]) := Lib.hid (by
                  have h := HN.out.less (m := [_]) (l := [_, _, _, _, _, _])
                  rw [HTK.out, ← List.append_assoc, flatM_append (mkL (U.take i)), flatM_append (mkL V ++ mkL (U.take i)), show flatM [m] = m.list by rw [flatM, flatM, List.append_nil]]
                  exact h)
                clear HN
                go_wp2_with fail
                go_roundw
                case rel => exact ⟨i + 1, A5, cp5, A6, cp6, by omega, by go_num, HH9⟩
                case measure => first | omega | (simp [RowKit.intOf]; done) | (simp [RowKit.intOf]; omega)
              · refine runT rfl (fun K hK => ?_)
                go_simp
                go_at_call 10
                refine (HMK.out _).mono ?_
                rintro r w3 ⟨rfl, hb3⟩
                (try go_wp2_with fail)
                replace HN := Lib.hid (HN.out.later hb3)
                clear hb3
                refine hK.out _ _ (vcells (HN.out.has 6 _ rfl : IsObj _ vb v.list ∧ _).1) (fun _ => ?_)
                (try simp only [Act.put, List.setIfInBounds_toArray, List.set_cons_zero, List.set_cons_succ])
                clear hK K
                refine ⟨?_, ?_⟩
                · refine runT rfl (fun K hK => ?_)
                  have s4 := (HN.out.has 4 _ rfl : IsObj _ s3 [i64 3, i64 2, i64 0, i64 3, .slice A3 (V.length + i) cp3] ∧ _).1.at' 4 _ rfl
                  go_simp
                  clear s4
                  refine hK.out _ _ (vcells (HN.out.has 6 _ rfl : IsObj _ vb v.list ∧ _).1) (fun _ => ?_)
                  (try simp only [Act.put, List.setIfInBounds_toArray, List.set_cons_zero, List.set_cons_succ])
                  clear hK K
                  refine runT rfl (fun K hK => ?_)
                  go_simp
                  replace HN := Lib.hid (HN.out.later (below_new (Below.refl _ _) (m.obj 40)))
                  refine hK.out _ _ (vcells (HN.out.has 6 _ rfl : IsObj _ vb v.list ∧ _).1) (fun _ => ?_)
                  (try simp only [Act.put, List.setIfInBounds_toArray, List.set_cons_zero, List.set_cons_succ])
                  clear hK K
                  refine runT rfl (fun K hK => ?_)
                  refine step_append_grew rfl _ _ 27 rfl w1.heap.size 40 _ 7 56 elem_cm (.slice A3 (V.length + i) cp3) (V.length + i) (flatM (mkL V ++ mkL (U.take i))) rfl (HN.out.has 5 _ rfl) (some ⟨_, 0, none⟩) 1 1 m.list rfl (src7_at _ _ m (by simp)) (by unfold maxLen; omega) (by omega) HN.out.size ?_
                  intro v' w8 hG
                  obtain ⟨A6, cp6, rfl⟩ := own_shape hG.own
                  replace HN := Lib.hid (HN.out.append 5 rfl rfl hG)
                  clear hG
                  refine hK.out _ _ (vcells (HN.out.has 6 _ rfl : IsObj _ vb v.list ∧ _).1) (fun _ => ?_)
                  (try simp only [Act.put, List.setIfInBounds_toArray, List.set_cons_zero, List.set_cons_succ])
                  clear hK K
                  repeat (refine seqT_take (v := ?_) rfl ?_ ?_ ?_; rotate_left 1; rfl; (focus (intro wS hSw; obtain ⟨x0, x1, x2, x3, x4, x5, x6, x7⟩ := hSw; go_simp; first | done | with_reducible rfl)); (try simp only [Act.put, List.setIfInBounds_toArray, List.set_cons_zero, List.set_cons_succ]))
                  refine runT rfl (fun K hK => ?_)
                  have hs8 := (HN.out.has 4 _ rfl : IsObj _ s3 [i64 3, i64 2, i64 0, i64 3, .slice A3 (V.length + i) cp3] ∧ _).1
                  have z4 := hs8.at' 4 _ rfl
                  have y4 := hs8.fz 4
                  clear hs8
                  go_simp
                  replace HN := Lib.hid (HN.out.cdSet 4 rfl 4 (.slice A6 (V.length + i + 1) cp6))
                  clear z4 y4
                  refine hK.out _ _ (vcells (HN.out.has 6 _ rfl : IsObj _ vb v.list ∧ _).1) (fun _ => ?_)
                  (try simp only [Act.put, List.setIfInBounds_toArray, List.set_cons_zero, List.set_cons_succ])
                  clear hK K
                  refine seqT_done ?_
                  have HH9 : Hid (Hold w1 _ [tObj w1.heap.size s1 [i64 3, i64 2, i64 0, i64 3, .slice A1 (V.length) cp1], tRow w1.heap.size 40 7 (.slice A1 (V.length) cp1) (V.length) (flatM (mkL V)), tObj w1.heap.size s2 [i64 3, i64 2, i64 0, i64 3, .slice A5 (i + 1) cp5], tRow w1.heap.size 40 7 (.slice A5 (i + 1) cp5) (i + 1) (flatM (mkL (U.take (i + 1)))), tObj w1.heap.size s3 [i64 3, i64 2, i64 0, i64 3, .slice A6 (V.length + (i + 1)) cp6], tRow w1.heap.size 40 7 (.slice A6 (V.length + (i + 1)) cp6) (V.length + (i + 1)) (flatM (mkL V ++ mkL (U.take (i + 1))))]) := Lib.hid (by
                    have h := HN.out.less (m := [_]) (l := [_, _, _, _, _, _])
                    rw [HTK.out, ← List.append_assoc, flatM_append (mkL (U.take i)), flatM_append (mkL V ++ mkL (U.take i)), show flatM [m] = m.list by rw [flatM, flatM, List.append_nil]]
                    exact h)
                  clear HN
                  go_wp2_with fail
                  go_roundw
                  case rel => exact ⟨i + 1, A5, cp5, A6, cp6, by omega, by go_num, HH9⟩
                  case measure => first | omega | (simp [RowKit.intOf]; done) | (simp [RowKit.intOf]; omega)
                · refine runT rfl (fun K hK => ?_)
                  go_simp
                  replace HN := Lib.hid (HN.out.later (below_new (Below.refl _ _) (m.obj 40)))
                  refine hK.out _ _ (vcells (HN.out.has 6 _ rfl : IsObj _ vb v.list ∧ _).1) (fun _ => ?_)
                  (try simp only [Act.put, List.setIfInBounds_toArray, List.set_cons_zero, List.set_cons_succ])
                  clear hK K
                  refine runT rfl (fun K hK => ?_)
                  have s4 := (HN.out.has 4 _ rfl : IsObj _ s3 [i64 3, i64 2, i64 0, i64 3, .slice A3 (V.length + i) cp3] ∧ _).1.at' 4 _ rfl
                  go_simp
                  clear s4
                  refine hK.out _ _ (vcells (HN.out.has 6 _ rfl : IsObj _ vb v.list ∧ _).1) (fun _ => ?_)
                  (try simp only [Act.put, List.setIfInBounds_toArray, List.set_cons_zero, List.set_cons_succ])
                  clear hK K
                  refine runT rfl (fun K hK => ?_)
                  refine step_append_grew rfl _ _ 27 rfl w1.heap.size 40 _ 7 56 elem_cm (.slice A3 (V.length + i) cp3) (V.length + i) (flatM (mkL V ++ mkL (U.take i))) rfl (HN.out.has 5 _ rfl) (some ⟨_, 0, none⟩) 1 1 m.list rfl (src7_at _ _ m (by simp)) (by unfold maxLen; omega) (by omega) HN.out.size ?_
                  intro v' w8 hG
                  obtain ⟨A6, cp6, rfl⟩ := own_shape hG.own
                  replace HN := Lib.hid (HN.out.append 5 rfl rfl hG)
                  clear hG
                  refine hK.out _ _ (vcells (HN.out.has 6 _ rfl : IsObj _ vb v.list ∧ _).1) (fun _ => ?_)
                  (try simp only [Act.put, List.setIfInBounds_toArray, List.set_cons_zero, List.set_cons_succ])
                  clear hK K
                  repeat (refine seqT_take (v := ?_) rfl ?_ ?_ ?_; rotate_left 1; rfl; (focus (intro wS hSw; obtain ⟨x0, x1, x2, x3, x4, x5, x6, x7⟩ := hSw; go_simp; first | done | with_reducible rfl)); (try simp only [Act.put, List.setIfInBounds_toArray, List.set_cons_zero, List.set_cons_succ]))
                  refine runT rfl (fun K hK => ?_)
                  have hs8 := (HN.out.has 4 _ rfl : IsObj _ s3 [i64 3, i64 2, i64 0, i64 3, .slice A3 (V.length + i) cp3] ∧ _).1
                  have z4 := hs8.at' 4 _ rfl
                  have y4 := hs8.fz 4
                  clear hs8
                  go_simp
                  replace HN := Lib.hid (HN.out.cdSet 4 rfl 4 (.slice A6 (V.length + i + 1) cp6))
                  clear z4 y4
                  refine hK.out _ _ (vcells (HN.out.has 6 _ rfl : IsObj _ vb v.list ∧ _).1) (fun _ => ?_)
                  (try simp only [Act.put, List.setIfInBounds_toArray, List.set_cons_zero, List.set_cons_succ])
                  clear hK K
                  refine seqT_done ?_
                  have HH9 : Hid (Hold w1 _ [tObj w1.heap.size s1 [i64 3, i64 2, i64 0, i64 3, .slice A1 (V.length) cp1], tRow w1.heap.size 40 7 (.slice A1 (V.length) cp1) (V.length) (flatM (mkL V)), tObj w1.heap.size s2 [i64 3, i64 2, i64 0, i64 3, .slice A5 (i + 1) cp5], tRow w1.heap.size 40 7 (.slice A5 (i + 1) cp5) (i + 1) (flatM (mkL (U.take (i + 1)))), tObj w1.heap.size s3 [i64 3, i64 2, i64 0, i64 3, .slice A6 (V.length + (i + 1)) cp6], tRow w1.heap.size 40 7 (.slice A6 (V.length + (i + 1)) cp6) (V.length + (i + 1)) (flatM (mkL V ++ mkL (U.take (i + 1))))]) := Lib.hid (by
                    have h := HN.out.less (m := [_]) (l := [_, _, _, _, _, _])
                    rw [HTK.out, ← List.append_assoc, flatM_append (mkL (U.take i)), flatM_append (mkL V ++ mkL (U.take i)), show flatM [m] = m.list by rw [flatM, flatM, List.append_nil]]
                    exact h)
                  clear HN
                  go_wp2_with fail
                  go_roundw
                  case rel => exact ⟨i + 1, A5, cp5, A6, cp6, by omega, by go_num, HH9⟩
                  case measure => first | omega | (simp [RowKit.intOf]; done) | (simp [RowKit.intOf]; omega)
            · refine runT rfl (fun K hK => ?_)
              go_simp
              replace HN := Lib.hid (HN.out.later (below_new (Below.refl _ _) (m.obj 40)))
              refine hK.out _ _ (vcells (HN.out.has 6 _ rfl : IsObj _ vb v.list ∧ _).1) (fun _ => ?_)
              (try simp only [Act.put, List.setIfInBounds_toArray, List.set_cons_zero, List.set_cons_succ])
              clear hK K
              refine runT rfl (fun K hK => ?_)
              have s4 := (HN.out.has 2 _ rfl : IsObj _ s2 [i64 3, i64 2, i64 0, i64 3, .slice A2 (i) cp2] ∧ _).1.at' 4 _ rfl
              go_simp
              clear s4
              refine hK.out _ _ (vcells (HN.out.has 6 _ rfl : IsObj _ vb v.list ∧ _).1) (fun _ => ?_)
              (try simp only [Act.put, List.setIfInBounds_toArray, List.set_cons_zero, List.set_cons_succ])
              clear hK K
              refine runT rfl (fun K hK => ?_)
              refine step_append_grew rfl _ _ 27 rfl w1.heap.size 40 _ 7 56 elem_cm (.slice A2 (i) cp2) (i) (flatM (mkL (U.take i))) rfl (HN.out.has 3 _ rfl) (some ⟨_, 0, none⟩) 1 1 m.list rfl (src7_at _ _ m (by simp)) (by unfold maxLen; omega) (by omega) HN.out.size ?_
              intro v' w8 hG
              obtain ⟨A5, cp5, rfl⟩ := own_shape hG.own
              replace HN := Lib.hid (HN.out.append 3 rfl rfl hG)
              clear hG
              refine hK.out _ _ (vcells (HN.out.has 6 _ rfl : IsObj _ vb v.list ∧ _).1) (fun _ => ?_)
              (try simp only [Act.put, List.setIfInBounds_toArray, List.set_cons_zero, List.set_cons_succ])
              clear hK K
              repeat (refine seqT_take (v := ?_) rfl ?_ ?_ ?_; rotate_left 1; rfl; (focus (intro wS hSw; obtain ⟨x0, x1, x2, x3, x4, x5, x6, x7⟩ := hSw; go_simp; first | done | with_reducible rfl)); (try simp only [Act.put, List.setIfInBounds_toArray, List.set_cons_zero, List.set_cons_succ]))
              refine runT rfl (fun K hK => ?_)
              have hs8 := (HN.out.has 2 _ rfl : IsObj _ s2 [i64 3, i64 2, i64 0, i64 3, .slice A2 (i) cp2] ∧ _).1
              have z4 := hs8.at' 4 _ rfl
              have y4 := hs8.fz 4
              clear hs8
              go_simp
              replace HN := Lib.hid (HN.out.cdSet 2 rfl 4 (.slice A5 (i + 1) cp5))
              clear z4 y4
              refine hK.out _ _ (vcells (HN.out.has 6 _ rfl : IsObj _ vb v.list ∧ _).1) (fun _ => ?_)
              (try simp only [Act.put, List.setIfInBounds_toArray, List.set_cons_zero, List.set_cons_succ])
              clear hK K
              refine seqT_done ?_
              go_wp2_with fail
              replace HN := Lib.hid HN.out.drew
              refine wp_region_seqT (fun w' => w'.cell? ⟨vb, 0, none⟩ = some (i64 v.kind) ∧ w'.cell? ⟨vb, 1, none⟩ = some (i64 v.who) ∧ w'.cell? ⟨vb, 2, none⟩ = some (i64 v.n) ∧ w'.cell? ⟨vb, 3, none⟩ = some (i64 v.start) ∧ w'.cell? ⟨vb, 4, none⟩ = some (.bool v.take) ∧ w'.cell? ⟨vb, 5, none⟩ = some (.bool v.right) ∧ w'.cell? ⟨vb, 6, none⟩ = some (.int .u64 v.value) ∧ w'.cell? ⟨vb, 7, none⟩ = some (i64 v.odd)) (.take 0 (.take 2 (.two 1 (.one 3 (.one 4 (.one 5 (.take 6 (.one 7 .nil))))) 3 (.two 1 (.one 4 (.one 5 (.take 6 (.one 7 .nil)))) 4 (.one 1 (.one 5 (.take 6 (.one 7 .nil)))))))) (by kernel_rfl) (by kernel_rfl) (by kernel_rfl) (by decide) (fun _ _ _ _ _ h => h) (vcells (HN.out.has 6 _ rfl : IsObj _ vb v.list ∧ _).1) ?_
              repeat (refine seqT_take (v := ?_) rfl ?_ ?_ ?_; rotate_left 1; rfl; (focus (intro wS hSw; obtain ⟨x0, x1, x2, x3, x4, x5, x6, x7⟩ := hSw; go_simp; first | done | with_reducible rfl)); (try simp only [Act.put, List.setIfInBounds_toArray, List.set_cons_zero, List.set_cons_succ]))
              refine ⟨?_, ?_⟩
              · refine runT rfl (fun K hK => ?_)
                have s4 := (HN.out.has 4 _ rfl : IsObj _ s3 [i64 3, i64 2, i64 0, i64 3, .slice A3 (V.length + i) cp3] ∧ _).1.at' 4 _ rfl
                go_simp
                clear s4
                refine hK.out _ _ (vcells (HN.out.has 6 _ rfl : IsObj _ vb v.list ∧ _).1) (fun _ => ?_)
                (try simp only [Act.put, List.setIfInBounds_toArray, List.set_cons_zero, List.set_cons_succ])
                clear hK K
                refine runT rfl (fun K hK => ?_)
                go_simp
                go_at_call 10
                refine (HMK.out _).mono ?_
                rintro r w3 ⟨rfl, hb3⟩
                (try go_wp2_with fail)
                replace HN := Lib.hid (HN.out.later hb3)
                clear hb3
                refine hK.out _ _ (vcells (HN.out.has 6 _ rfl : IsObj _ vb v.list ∧ _).1) (fun _ => ?_)
                (try simp only [Act.put, List.setIfInBounds_toArray, List.set_cons_zero, List.set_cons_succ])
                clear hK K
                refine runT rfl (fun K hK => ?_)
                go_simp
                replace HN := Lib.hid (HN.out.later (below_new (Below.refl _ _) (m.obj 40)))
                refine hK.out _ _ (vcells (HN.out.has 6 _ rfl : IsObj _ vb v.list ∧ _).1) (fun _ => ?_)
                (try simp only [Act.put, List.setIfInBounds_toArray, List.set_cons_zero, List.set_cons_succ])
                clear hK K
                refine runT rfl (fun K hK => ?_)
                refine step_append_grew rfl _ _ 27 rfl w1.heap.size 40 _ 7 56 elem_cm (.slice A3 (V.length + i) cp3) (V.length + i) (flatM (mkL V ++ mkL (U.take i))) rfl (HN.out.has 5 _ rfl) (some ⟨_, 0, none⟩) 1 1 m.list rfl (src7_at _ _ m (by simp)) (by unfold maxLen; omega) (by omega) HN.out.size ?_
                intro v' w8 hG
                obtain ⟨A6, cp6, rfl⟩ := own_shape hG.own
                replace HN := Lib.hid (HN.out.append 5 rfl rfl hG)
                clear hG
                refine hK.out _ _ (vcells (HN.out.has 6 _ rfl : IsObj _ vb v.list ∧ _).1) (fun _ => ?_)
                (try simp only [Act.put, List.setIfInBounds_toArray, List.set_cons_zero, List.set_cons_succ])
                clear hK K
                repeat (refine seqT_take (v := ?_) rfl ?_ ?_ ?_; rotate_left 1; rfl; (focus (intro wS hSw; obtain ⟨x0, x1, x2, x3, x4, x5, x6, x7⟩ := hSw; go_simp; first | done | with_reducible rfl)); (try simp only [Act.put, List.setIfInBounds_toArray, List.set_cons_zero, List.set_cons_succ]))
                refine runT rfl (fun K hK => ?_)
                have hs8 := (HN.out.has 4 _ rfl : IsObj _ s3 [i64 3, i64 2, i64 0, i64 3, .slice A3 (V.length + i) cp3] ∧ _).1
                have z4 := hs8.at' 4 _ rfl
                have y4 := hs8.fz 4
                clear hs8
                go_simp
                replace HN := Lib.hid (HN.out.cdSet 4 rfl 4 (.slice A6 (V.length + i + 1) cp6))
                clear z4 y4
                refine hK.out _ _ (vcells (HN.out.has 6 _ rfl : IsObj _ vb v.list ∧ _).1) (fun _ => ?_)
                (try simp only [Act.put, List.setIfInBounds_toArray, List.set_cons_zero, List.set_cons_succ])
                clear hK K
                refine seqT_done ?_
                have HH9 : Hid (Hold w1 _ [tObj w1.heap.size s1 [i64 3, i64 2, i64 0, i64 3, .slice A1 (V.length) cp1], tRow w1.heap.size 40 7 (.slice A1 (V.length) cp1) (V.length) (flatM (mkL V)), tObj w1.heap.size s2 [i64 3, i64 2, i64 0, i64 3, .slice A5 (i + 1) cp5], tRow w1.heap.size 40 7 (.slice A5 (i + 1) cp5) (i + 1) (flatM (mkL (U.take (i + 1)))), tObj w1.heap.size s3 [i64 3, i64 2, i64 0, i64 3, .slice A6 (V.length + (i + 1)) cp6], tRow w1.heap.size 40 7 (.slice A6 (V.length + (i + 1)) cp6) (V.length + (i + 1)) (flatM (mkL V ++ mkL (U.take (i + 1))))]) := Lib.hid (by
                  have h := HN.out.less (m := [_]) (l := [_, _, _, _, _, _])
                  rw [HTK.out, ← List.append_assoc, flatM_append (mkL (U.take i)), flatM_append (mkL V ++ mkL (U.take i)), show flatM [m] = m.list by rw [flatM, flatM, List.append_nil]]
                  exact h)
                clear HN
                go_wp2_with fail
                go_roundw
                case rel => exact ⟨i + 1, A5, cp5, A6, cp6, by omega, by go_num, HH9⟩
                case measure => first | omega | (simp [RowKit.intOf]; done) | (simp [RowKit.intOf]; omega)
              · refine runT rfl (fun K hK => ?_)
                go_simp
                go_at_call 10
                refine (HMK.out _).mono ?_
                rintro r w3 ⟨rfl, hb3⟩
                (try go_wp2_with fail)
                replace HN := Lib.hid (HN.out.later hb3)
                clear hb3
                refine hK.out _ _ (vcells (HN.out.has 6 _ rfl : IsObj _ vb v.list ∧ _).1) (fun _ => ?_)
                (try simp only [Act.put, List.setIfInBounds_toArray, List.set_cons_zero, List.set_cons_succ])
                clear hK K
                refine ⟨?_, ?_⟩
                · refine runT rfl (fun K hK => ?_)
                  have s4 := (HN.out.has 4 _ rfl : IsObj _ s3 [i64 3, i64 2, i64 0, i64 3, .slice A3 (V.length + i) cp3] ∧ _).1.at' 4 _ rfl
                  go_simp
                  clear s4
                  refine hK.out _ _ (vcells (HN.out.has 6 _ rfl : IsObj _ vb v.list ∧ _).1) (fun _ => ?_)
                  (try simp only [Act.put, List.setIfInBounds_toArray, List.set_cons_zero, List.set_cons_succ])
                  clear hK K
                  refine runT rfl (fun K hK => ?_)
                  go_simp
                  replace HN := Lib.hid (HN.out.later (below_new (Below.refl _ _) (m.obj 40)))
                  refine hK.out _ _ (vcells (HN.out.has 6 _ rfl : IsObj _ vb v.list ∧ _).1) (fun _ => ?_)
                  (try simp only [Act.put, List.setIfInBounds_toArray, List.set_cons_zero, List.set_cons_succ])
                  clear hK K
                  refine runT rfl (fun K hK => ?_)
                  refine step_append_grew rfl _ _ 27 rfl w1.heap.size 40 _ 7 56 elem_cm (.slice A3 (V.length + i) cp3) (V.length + i) (flatM (mkL V ++ mkL (U.take i))) rfl (HN.out.has 5 _ rfl) (some ⟨_, 0, none⟩) 1 1 m.list rfl (src7_at _ _ m (by simp)) (by unfold maxLen; omega) (by omega) HN.out.size ?_
                  intro v' w8 hG
                  obtain ⟨A6, cp6, rfl⟩ := own_shape hG.own
                  replace HN := Lib.hid (HN.out.append 5 rfl rfl hG)
                  clear hG
                  refine hK.out _ _ (vcells (HN.out.has 6 _ rfl : IsObj _ vb v.list ∧ _).1) (fun _ => ?_)
                  (try simp only [Act.put, List.setIfInBounds_toArray, List.set_cons_zero, List.set_cons_succ])
                  clear hK K
                  repeat (refine seqT_take (v := ?_) rfl ?_ ?_ ?_; rotate_left 1; rfl; (focus (intro wS hSw; obtain ⟨x0, x1, x2, x3, x4, x5, x6, x7⟩ := hSw; go_simp; first | done | with_reducible rfl)); (try simp only [Act.put, List.setIfInBounds_toArray, List.set_cons_zero, List.set_cons_succ]))
                  refine runT rfl (fun K hK => ?_)
                  have hs8 := (HN.out.has 4 _ rfl : IsObj _ s3 [i64 3, i64 2, i64 0, i64 3, .slice A3 (V.length + i) cp3] ∧ _).1
                  have z4 := hs8.at' 4 _ rfl
                  have y4 := hs8.fz 4
                  clear hs8
                  go_simp
                  replace HN := Lib.hid (HN.out.cdSet 4 rfl 4 (.slice A6 (V.length + i + 1) cp6))
                  clear z4 y4
                  refine hK.out _ _ (vcells (HN.out.has 6 _ rfl : IsObj _ vb v.list ∧ _).1) (fun _ => ?_)
                  (try simp only [Act.put, List.setIfInBounds_toArray, List.set_cons_zero, List.set_cons_succ])
                  clear hK K
                  refine seqT_done ?_
                  have HH9 : Hid (Hold w1 _ [tObj w1.heap.size s1 [i64 3, i64 2, i64 0, i64 3, .slice A1 (V.length) cp1], tRow w1.heap.size 40 7 (.slice A1 (V.length) cp1) (V.length) (flatM (mkL V)), tObj w1.heap.size s2 [i64 3, i64 2, i64 0, i64 3, .slice A5 (i + 1) cp5], tRow w1.heap.size 40 7 (.slice A5 (i + 1) cp5) (i + 1) (flatM (mkL (U.take (i + 1)))), tObj w1.heap.size s3 [i64 3, i64 2, i64 0, i64 3, .slice A6 (V.length + (i + 1)) cp6], tRow w1.heap.size 40 7 (.slice A6 (V.length + (i + 1)) cp6) (V.length + (i + 1)) (flatM (mkL V ++ mkL (U.take (i + 1))))]) := Lib.hid (by
                    have h := HN.out.less (m := [_]) (l := [_, _, _, _, _, _])
                    rw [HTK.out, ← List.append_assoc, flatM_append (mkL (U.take i)), flatM_append (mkL V ++ mkL (U.take i)), show flatM [m] = m.list by rw [flatM, flatM, List.append_nil]]
                    exact h)
                  clear HN
                  go_wp2_with fail
                  go_roundw
                  case rel => exact ⟨i + 1, A5, cp5, A6, cp6, by omega, by go_num, HH9⟩
                  case measure => first | omega | (simp [RowKit.intOf]; done) | (simp [RowKit.intOf]; omega)
                · refine runT rfl (fun K hK => ?_)
                  go_simp
                  replace HN := Lib.hid (HN.out.later (below_new (Below.refl _ _) (m.obj 40)))
                  refine hK.out _ _ (vcells (HN.out.has 6 _ rfl : IsObj _ vb v.list ∧ _).1) (fun _ => ?_)
                  (try simp only [Act.put, List.setIfInBounds_toArray, List.set_cons_zero, List.set_cons_succ])
                  clear hK K
                  refine runT rfl (fun K hK => ?_)
                  have s4 := (HN.out.has 4 _ rfl : IsObj _ s3 [i64 3, i64 2, i64 0, i64 3, .slice A3 (V.length + i) cp3] ∧ _).1.at' 4 _ rfl
                  go_simp
                  clear s4
                  refine hK.out _ _ (vcells (HN.out.has 6 _ rfl : IsObj _ vb v.list ∧ _).1) (fun _ => ?_)
                  (try simp only [Act.put, List.setIfInBounds_toArray, List.set_cons_zero, List.set_cons_succ])
                  clear hK K
                  refine runT rfl (fun K hK => ?_)
                  refine step_append_grew rfl _ _ 27 rfl w1.heap.size 40 _ 7 56 elem_cm (.slice A3 (V.length + i) cp3) (V.length + i) (flatM (mkL V ++ mkL (U.take i))) rfl (HN.out.has 5 _ rfl) (some ⟨_, 0, none⟩) 1 1 m.list rfl (src7_at _ _ m (by simp)) (by unfold maxLen; omega) (by omega) HN.out.size ?_
                  intro v' w8 hG
                  obtain ⟨A6, cp6, rfl⟩ := own_shape hG.own
                  replace HN := Lib.hid (HN.out.append 5 rfl rfl hG)
                  clear hG
                  refine hK.out _ _ (vcells (HN.out.has 6 _ rfl : IsObj _ vb v.list ∧ _).1) (fun _ => ?_)
                  (try simp only [Act.put, List.setIfInBounds_toArray, List.set_cons_zero, List.set_cons_succ])
                  clear hK K
                  repeat (refine seqT_take (v := ?_) rfl ?_ ?_ ?_; rotate_left 1; rfl; (focus (intro wS hSw; obtain ⟨x0, x1, x2, x3, x4, x5, x6, x7⟩ := hSw; go_simp; first | done | with_reducible rfl)); (try simp only [Act.put, List.setIfInBounds_toArray, List.set_cons_zero, List.set_cons_succ]))
                  refine runT rfl (fun K hK => ?_)
                  have hs8 := (HN.out.has 4 _ rfl : IsObj _ s3 [i64 3, i64 2, i64 0, i64 3, .slice A3 (V.length + i) cp3] ∧ _).1
                  have z4 := hs8.at' 4 _ rfl
                  have y4 := hs8.fz 4
                  clear hs8
                  go_simp
                  replace HN := Lib.hid (HN.out.cdSet 4 rfl 4 (.slice A6 (V.length + i + 1) cp6))
                  clear z4 y4
                  refine hK.out _ _ (vcells (HN.out.has 6 _ rfl : IsObj _ vb v.list ∧ _).1) (fun _ => ?_)
                  (try simp only [Act.put, List.setIfInBounds_toArray, List.set_cons_zero, List.set_cons_succ])
                  clear hK K
                  refine seqT_done ?_
                  have HH9 : Hid (Hold w1 _ [tObj w1.heap.size s1 [i64 3, i64 2, i64 0, i64 3, .slice A1 (V.length) cp1], tRow w1.heap.size 40 7 (.slice A1 (V.length) cp1) (V.length) (flatM (mkL V)), tObj w1.heap.size s2 [i64 3, i64 2, i64 0, i64 3, .slice A5 (i + 1) cp5], tRow w1.heap.size 40 7 (.slice A5 (i + 1) cp5) (i + 1) (flatM (mkL (U.take (i + 1)))), tObj w1.heap.size s3 [i64 3, i64 2, i64 0, i64 3, .slice A6 (V.length + (i + 1)) cp6], tRow w1.heap.size 40 7 (.slice A6 (V.length + (i + 1)) cp6) (V.length + (i + 1)) (flatM (mkL V ++ mkL (U.take (i + 1))))]) := Lib.hid (by
                    have h := HN.out.less (m := [_]) (l := [_, _, _, _, _, _])
                    rw [HTK.out, ← List.append_assoc, flatM_append (mkL (U.take i)), flatM_append (mkL V ++ mkL (U.take i)), show flatM [m] = m.list by rw [flatM, flatM, List.append_nil]]
                    exact h)
                  clear HN
                  go_wp2_with fail
                  go_roundw
                  case rel => exact ⟨i + 1, A5, cp5, A6, cp6, by omega, by go_num, HH9⟩
                  case measure => first | omega | (simp [RowKit.intOf]; done) | (simp [RowKit.intOf]; omega)
        · obtain rfl : i = U.length := by omega
          have hnn : ¬ (U.length : Int) < (U.length : Int) := by omega
          rw [List.take_length] at HH
          have HSE := Lib.hid (mkL_len V)
          have HRE := Lib.hid (mkL_len U)
          have HFS := Lib.hid (mkL_fit HVF.out)
          have HFR := Lib.hid (mkL_fit HUF.out)
          generalize mkL V = S at HH HSE HFS
          generalize mkL U = R at HH HRE HFR
          obtain ⟨P, hP⟩ : ∃ P, S ++ R = P := ⟨_, rfl⟩
          have HPE := Lib.hid hP
          have HPL : Hid (P.length = V.length + U.length) := Lib.hid (by rw [← hP, List.length_append, HSE.out, HRE.out])
          have HFP : Hid (∀ m ∈ P, m.Fit) := Lib.hid (fun m hm => by
            rw [← hP] at hm
            rcases List.mem_append.1 hm with h | h
            · exact HFS.out m h
            · exact HFR.out m h)
          rw [hP] at HH
          rw [← HPL.out, ← HSE.out, ← HRE.out] at HH
          rw [← HSE.out] at hv
          rw [← HRE.out] at hu hnn ⊢
          have hp : P.length ≤ 80 := by rw [HPL.out, ← HSE.out, ← HRE.out]; omega
          clear hP HVF HUF hi hil HV1 HU1
          generalize V.length = vn at hv' ⊢
          have hs0 := (HH.out.has 0 _ rfl : IsObj wr s1 [i64 3, i64 2, i64 0, i64 3, .slice A1 S.length cp1] ∧ _).1
          obtain ⟨q0, q1, q2, q3, q4⟩ : _ ∧ _ ∧ _ ∧ _ ∧ _ := ⟨hs0.at' 0 _ rfl, hs0.at' 1 _ rfl, hs0.at' 2 _ rfl, hs0.at' 3 _ rfl, hs0.at' 4 _ rfl⟩
          have HIS := Lib.hid (IsAt.own (show wr.ownsRow w1.heap.size 40 7 (.slice A1 S.length cp1) S.length (flatM S) from HH.out.has 1 _ rfl))
          clear hs0
          go_wp2_with fail
          refine (encode_any 3 2 0 3 A1 cp1 S _ HIS.out HFS.out (by omega)).mono ?_
          rintro r w3 ⟨vE, eE, rfl, hb3, hE⟩
          have HE := Lib.hid hE
          have HH3 := Lib.hid (HH.out.later hb3)
          clear hb3 hE HH HIS q0 q1 q2 q3 q4
          have hs0 := (HH3.out.has 2 _ rfl : IsObj w3 s2 [i64 3, i64 2, i64 0, i64 3, .slice A2 R.length cp2] ∧ _).1
          obtain ⟨q0, q1, q2, q3, q4⟩ : _ ∧ _ ∧ _ ∧ _ ∧ _ := ⟨hs0.at' 0 _ rfl, hs0.at' 1 _ rfl, hs0.at' 2 _ rfl, hs0.at' 3 _ rfl, hs0.at' 4 _ rfl⟩
          have HIR := Lib.hid (IsAt.own (show w3.ownsRow w1.heap.size 40 7 (.slice A2 R.length cp2) R.length (flatM R) from HH3.out.has 3 _ rfl))
          clear hs0
          go_wp2_with fail
          refine (encode_any 3 2 0 3 A2 cp2 R _ HIR.out HFR.out (by omega)).mono ?_
          rintro r w4 ⟨vF, eF, rfl, hb4, hF⟩
          have HF := Lib.hid hF
          have HB34 := Lib.hid hb4
          have HH4 := Lib.hid (HH3.out.later hb4)
          clear hb4 hF HH3 HIR q0 q1 q2 q3 q4
          have hs0 := (HH4.out.has 4 _ rfl : IsObj w4 s3 [i64 3, i64 2, i64 0, i64 3, .slice A3 P.length cp3] ∧ _).1
          obtain ⟨q0, q1, q2, q3, q4⟩ : _ ∧ _ ∧ _ ∧ _ ∧ _ := ⟨hs0.at' 0 _ rfl, hs0.at' 1 _ rfl, hs0.at' 2 _ rfl, hs0.at' 3 _ rfl, hs0.at' 4 _ rfl⟩
          have HIP := Lib.hid (IsAt.own (show w4.ownsRow w1.heap.size 40 7 (.slice A3 P.length cp3) P.length (flatM P) from HH4.out.has 5 _ rfl))
          clear hs0
          go_wp2_with fail
          refine (encode_any 3 2 0 3 A3 cp3 P _ HIP.out HFP.out (by omega)).mono ?_
          rintro r w5 ⟨vG, eG, rfl, hb5, hG⟩
          have HG := Lib.hid hG
          have HB45 := Lib.hid hb5
          have HB5 := Lib.hid (below_step HBW.out (HH4.out.later hb5).below)
          have HSL := Lib.hid (show S.length ≤ 65536 ∧ R.length ≤ 65536 ∧ P.length ≤ 65536 from ⟨by omega, by omega, by omega⟩)
          clear hb5 hG HH4 HIP q0 q1 q2 q3 q4
          by_cases h1 : ∀ m ∈ S, m.Right
          case neg =>
            obtain ⟨rfl, rfl⟩ := HE.out.no rc32 HSL.out.1 h1
            obtain ⟨rfl, rfl⟩ := HG.out.no rc32 HSL.out.2.2 (fun h => h1 (fun m hm => h m (by rw [← HPE.out]; exact List.mem_append_left _ hm)))
            clear h1
            go_wp2_with fail
            go_ret
            exact ⟨rfl, HB5.out⟩
          case pos =>
          obtain ⟨rfl, ho1⟩ := HE.out.yes rc32 HSL.out.1 h1
          by_cases h2 : ∀ m ∈ R, m.Right
          case neg =>
            obtain ⟨rfl, rfl⟩ := HF.out.no rc32 HSL.out.2.1 h2
            obtain ⟨rfl, rfl⟩ := HG.out.no rc32 HSL.out.2.2 (fun h => h2 (fun m hm => h m (by rw [← HPE.out]; exact List.mem_append_right _ hm)))
            clear h1 h2 ho1
            go_wp2_with fail
            go_ret
            exact ⟨rfl, HB5.out⟩
          case pos =>
          obtain ⟨rfl, ho2⟩ := HF.out.yes rc32 HSL.out.2.1 h2
          have hpr : ∀ m ∈ P, m.Right := fun m hm => by
            rw [← HPE.out] at hm
            rcases List.mem_append.1 hm with h | h
            · exact h1 m h
            · exact h2 m h
          obtain ⟨rfl, ho3⟩ := HG.out.yes rc32 HSL.out.2.2 hpr
          have HY3 := Lib.hid (byt_script rc32 hpr)
          obtain ⟨X1, c1, rfl⟩ := own_shape ho1
          obtain ⟨X2, c2, rfl⟩ := own_shape ho2
          obtain ⟨X3, c3, rfl⟩ := own_shape ho3
          have HI1 := Lib.hid (((IsAt.own ho1).later HB34.out).later HB45.out)
          have HI2 := Lib.hid ((IsAt.own ho2).later HB45.out)
          have HI3 := Lib.hid (IsAt.own ho3)
          have hc2 := own_cap8 ho2
          have hlen1 := encs_len S
          have hlen2 := encs_len R
          have HJ : Hid ([3, 2, 0, 3] ++ encs P = ([3, 2, 0, 3] ++ encs S) ++ encs R) := Lib.hid (by rw [← HPE.out, encs_append, List.append_assoc])
          clear h1 h2 hpr ho1 ho2 ho3 HE HF HG
          generalize encs R = er at HI2 HJ hc2 hlen2 ⊢
          generalize [3, 2, 0, 3] ++ encs P = lz at HI3 HJ HY3 ⊢
          generalize hlx : [3, 2, 0, 3] ++ encs S = lx at HI1 HJ ⊢
          obtain ⟨ly, hly⟩ : ∃ ly, [3, 2, 0, 3] ++ er = ly := ⟨_, rfl⟩
          rw [hly] at HI2 hc2 ⊢
          obtain ⟨n2, hn2⟩ : ∃ n2, ly.length = n2 := ⟨_, rfl⟩
          have hne : n2 = 4 + er.length := by rw [← hn2, ← hly, List.length_append]; rfl
          have hx3 : lx.length ≤ 1000 := by rw [← hlx, List.length_append]; show 4 + (encs S).length ≤ _; omega
          have HDR : Hid (ly.drop 4 = er) := Lib.hid (by rw [← hly]; rfl)
          rw [hn2] at hc2 ⊢
          have h4 : 4 ≤ n2 := by omega
          have h4' : (4 : Int) ≤ (n2 : Int) := by omega
          have HNE := Lib.hid hne
          clear hlx hly hn2 hne
          have h4g : decide (4 ≤ n2) = true := decide_eq_true h4
          have h4c : 4 ≤ c2 := by omega
          have h4c' : (4 : Int) ≤ (c2 : Int) := by omega
          by_cases hce : c2 = 4
          case pos =>
            have HI0 : Hid (IsAt w5 X2 (er.map u8)) := Lib.hid (by
              have : er = [] := List.eq_nil_of_length_eq_zero (by have := HNE.out; omega)
              rw [this]
              exact IsAt.nil _ _)
            have hn24 : n2 = 4 := by omega
            have hc24 := hce
            subst hc24
            subst hn24
            clear h4c h4c' HI2 h4 h4' h4g hce
            go_wp2_with fail
            refine wp_region_seqS ((fun w' => True)) ((0, true) :: (1, true) :: (2, true) :: (3, true) :: (4, true) :: (5, true) :: (6, true) :: (7, true) :: (8, true) :: (10, true) :: (12, true) :: (13, true) :: (9, false) :: (11, false) :: (14, false) :: (15, false) :: (16, true) :: (17, true) :: []) (by kernel_rfl) (by kernel_rfl) (by kernel_rfl) (by decide) (fun _ _ _ _ _ h => h) (trivial) ?_
            repeat (first | (refine seq_take (v := ?_) rfl ?_ ?_ ?_; rotate_left 1; rfl; (focus (intro wS hSw; obtain _ := hSw; go_simp; first | done | with_reducible rfl)); (try simp only [Act.put, List.setIfInBounds_toArray, List.set_cons_zero, List.set_cons_succ])) | (refine seq_skip rfl ?_ ?_; rfl; (try simp only [Act.put, List.setIfInBounds_toArray, List.set_cons_zero, List.set_cons_succ])))
            have hb0 := (Below.refl w5.heap.size w5).drew
            refine seq_run rfl (fun K hK => ?_)
            go_simp
            have hb1 := below_new hb0 (.cells #[] 5)
            have ho0 : (w5.drew.alloc (.cells #[] 5)).ownsRow w5.heap.size 5 1 (.slice (some ⟨w5.drew.heap.size, 0, none⟩) 0 0) 0 [] := tRow_made w5.drew w5.heap.size 5 1 (Nat.le_refl _)
            refine hK.out _ _ (trivial) (fun _ => ?_)
            (try simp only [Act.put, List.setIfInBounds_toArray, List.set_cons_zero, List.set_cons_succ])
            clear hK K
            repeat (first | (refine seq_take (v := ?_) rfl ?_ ?_ ?_; rotate_left 1; rfl; (focus (intro wS hSw; obtain _ := hSw; go_simp; first | done | with_reducible rfl)); (try simp only [Act.put, List.setIfInBounds_toArray, List.set_cons_zero, List.set_cons_succ])) | (refine seq_skip rfl ?_ ?_; rfl; (try simp only [Act.put, List.setIfInBounds_toArray, List.set_cons_zero, List.set_cons_succ])))
            refine seq_run rfl (fun K hK => ?_)
            rw [if_pos (by first | rfl | simp [Region.wanted, yielded, go_sem])]
            refine wp_append_grew _ _ 30 rfl w5.heap.size 5 _ 1 1 elem_u8 (.slice (some ⟨w5.drew.heap.size, 0, none⟩) 0 0) 0 [] rfl ho0 X1 lx.length c1 (lx.map u8) rfl (IsAt.src (HI1.out.later hb1) (by rw [List.length_map, Nat.mul_one]) (by decide) (one_u8 lx)) (by unfold maxLen; omega) (by omega) hb1.size ?_
            intro v' w7 hG
            have hb7 := grew_belowJ hb1 ho0 hG
            obtain ⟨A7, c7, rfl⟩ := own_shape hG.own
            have ho7 := hG.own
            clear hG
            refine hK.out _ _ (trivial) (fun _ => ?_)
            (try simp only [Act.put, List.setIfInBounds_toArray, List.set_cons_zero, List.set_cons_succ])
            clear hK K
            repeat (first | (refine seq_take (v := ?_) rfl ?_ ?_ ?_; rotate_left 1; rfl; (focus (intro wS hSw; obtain _ := hSw; go_simp; first | done | with_reducible rfl)); (try simp only [Act.put, List.setIfInBounds_toArray, List.set_cons_zero, List.set_cons_succ])) | (refine seq_skip rfl ?_ ?_; rfl; (try simp only [Act.put, List.setIfInBounds_toArray, List.set_cons_zero, List.set_cons_succ])))
            refine seq_run rfl (fun K hK => ?_)
            rw [if_pos (by first | rfl | simp [Region.wanted, yielded, go_sem])]
            refine wp_append_grew _ _ 30 rfl w5.heap.size 5 _ 1 1 elem_u8 (.slice A7 (0 + lx.length) c7) (0 + lx.length) ([] ++ lx.map u8) rfl ho7 (X2) (0) (0) (er.map u8) rfl (IsAt.src (HI0.out.later hb7) (by rw [List.length_map, Nat.mul_one]; have := HNE.out; omega) (by decide) (one_u8 er)) (by have := HNE.out; unfold maxLen; omega) (by have := HNE.out; omega) hb7.size ?_
            intro v' w8 hG
            have hb8 := grew_belowJ hb7 ho7 hG
            obtain ⟨A8, c8, rfl⟩ := own_shape hG.own
            have HO8 := Lib.hid (IsAt.own hG.own)
            obtain ⟨lw, hlw⟩ : ∃ lw, lx ++ er = lw := ⟨_, rfl⟩
            have hl8 : 0 + lx.length + 0 = lw.length := by rw [← hlw, List.length_append]; have := HNE.out; omega
            rw [hl8]
            clear hG ho7
            refine hK.out _ _ (trivial) (fun _ => ?_)
            (try simp only [Act.put, List.setIfInBounds_toArray, List.set_cons_zero, List.set_cons_succ])
            clear hK K
            repeat (first | (refine seq_take (v := ?_) rfl ?_ ?_ ?_; rotate_left 1; rfl; (focus (intro wS hSw; obtain _ := hSw; go_simp; first | done | with_reducible rfl)); (try simp only [Act.put, List.setIfInBounds_toArray, List.set_cons_zero, List.set_cons_succ])) | (refine seq_skip rfl ?_ ?_; rfl; (try simp only [Act.put, List.setIfInBounds_toArray, List.set_cons_zero, List.set_cons_succ])))
            refine seq_run rfl (fun K hK => ?_)
            go_simp
            go_at_call 16
            have HJ2 : lz = lw := HJ.out.trans hlw
            refine (same18_any X3 A8 lz lw c3 c8 w8 (Row8.later ⟨HI3.out, HY3.out⟩ hb8) ⟨by rw [← hlw, List.map_append]; exact HO8.out, HJ2 ▸ HY3.out⟩).mono ?_
            rintro r w9 ⟨rfl, rfl⟩
            (try go_wp2_with fail)
            (try rw [decide_eq_true HJ2])
            refine hK.out _ _ (trivial) (fun _ => ?_)
            (try simp only [Act.put, List.setIfInBounds_toArray, List.set_cons_zero, List.set_cons_succ])
            clear hK K
            repeat (first | (refine seq_take (v := ?_) rfl ?_ ?_ ?_; rotate_left 1; rfl; (focus (intro wS hSw; obtain _ := hSw; go_simp; first | done | with_reducible rfl)); (try simp only [Act.put, List.setIfInBounds_toArray, List.set_cons_zero, List.set_cons_succ])) | (refine seq_skip rfl ?_ ?_; rfl; (try simp only [Act.put, List.setIfInBounds_toArray, List.set_cons_zero, List.set_cons_succ])))
            refine seq_done ?_
            have HZ := Lib.hid (below_step HB5.out hb8)
            clear hb0 hb1 hb7 hb8
            go_wp2_with fail
            go_ret
            exact ⟨rfl, HZ.out⟩
          case neg =>
          have HI0 : Hid (IsAt w5 (Option.map (fun x : Addr => (⟨x.block, x.off + 4, none⟩ : Addr)) X2) (er.map u8)) := Lib.hid (by rw [← HDR.out]; exact isat_drop4 HI2.out)
          clear h4c h4c' HI2
          go_wp2_with fail
          refine wp_region_seqS ((fun w' => True)) ((0, true) :: (1, true) :: (2, true) :: (3, true) :: (4, true) :: (5, true) :: (6, true) :: (7, true) :: (8, true) :: (10, true) :: (12, true) :: (13, true) :: (9, false) :: (11, false) :: (14, false) :: (15, false) :: (16, true) :: (17, true) :: []) (by kernel_rfl) (by kernel_rfl) (by kernel_rfl) (by decide) (fun _ _ _ _ _ h => h) (trivial) ?_
          repeat (first | (refine seq_take (v := ?_) rfl ?_ ?_ ?_; rotate_left 1; rfl; (focus (intro wS hSw; obtain _ := hSw; go_simp; first | done | with_reducible rfl)); (try simp only [Act.put, List.setIfInBounds_toArray, List.set_cons_zero, List.set_cons_succ])) | (refine seq_skip rfl ?_ ?_; rfl; (try simp only [Act.put, List.setIfInBounds_toArray, List.set_cons_zero, List.set_cons_succ])))
          have hb0 := (Below.refl w5.heap.size w5).drew
          refine seq_run rfl (fun K hK => ?_)
          go_simp
          have hb1 := below_new hb0 (.cells #[] 5)
          have ho0 : (w5.drew.alloc (.cells #[] 5)).ownsRow w5.heap.size 5 1 (.slice (some ⟨w5.drew.heap.size, 0, none⟩) 0 0) 0 [] := tRow_made w5.drew w5.heap.size 5 1 (Nat.le_refl _)
          refine hK.out _ _ (trivial) (fun _ => ?_)
          (try simp only [Act.put, List.setIfInBounds_toArray, List.set_cons_zero, List.set_cons_succ])
          clear hK K
          repeat (first | (refine seq_take (v := ?_) rfl ?_ ?_ ?_; rotate_left 1; rfl; (focus (intro wS hSw; obtain _ := hSw; go_simp; first | done | with_reducible rfl)); (try simp only [Act.put, List.setIfInBounds_toArray, List.set_cons_zero, List.set_cons_succ])) | (refine seq_skip rfl ?_ ?_; rfl; (try simp only [Act.put, List.setIfInBounds_toArray, List.set_cons_zero, List.set_cons_succ])))
          refine seq_run rfl (fun K hK => ?_)
          rw [if_pos (by first | rfl | simp [Region.wanted, yielded, go_sem])]
          refine wp_append_grew _ _ 30 rfl w5.heap.size 5 _ 1 1 elem_u8 (.slice (some ⟨w5.drew.heap.size, 0, none⟩) 0 0) 0 [] rfl ho0 X1 lx.length c1 (lx.map u8) rfl (IsAt.src (HI1.out.later hb1) (by rw [List.length_map, Nat.mul_one]) (by decide) (one_u8 lx)) (by unfold maxLen; omega) (by omega) hb1.size ?_
          intro v' w7 hG
          have hb7 := grew_belowJ hb1 ho0 hG
          obtain ⟨A7, c7, rfl⟩ := own_shape hG.own
          have ho7 := hG.own
          clear hG
          refine hK.out _ _ (trivial) (fun _ => ?_)
          (try simp only [Act.put, List.setIfInBounds_toArray, List.set_cons_zero, List.set_cons_succ])
          clear hK K
          repeat (first | (refine seq_take (v := ?_) rfl ?_ ?_ ?_; rotate_left 1; rfl; (focus (intro wS hSw; obtain _ := hSw; go_simp; first | done | with_reducible rfl)); (try simp only [Act.put, List.setIfInBounds_toArray, List.set_cons_zero, List.set_cons_succ])) | (refine seq_skip rfl ?_ ?_; rfl; (try simp only [Act.put, List.setIfInBounds_toArray, List.set_cons_zero, List.set_cons_succ])))
          refine seq_run rfl (fun K hK => ?_)
          rw [if_pos (by first | rfl | simp [Region.wanted, yielded, go_sem])]
          refine wp_append_grew _ _ 30 rfl w5.heap.size 5 _ 1 1 elem_u8 (.slice A7 (0 + lx.length) c7) (0 + lx.length) ([] ++ lx.map u8) rfl ho7 (Option.map (fun x : Addr => (⟨x.block, x.off + 4, none⟩ : Addr)) X2) (n2 - 4) (c2 - 4) (er.map u8) rfl (IsAt.src (HI0.out.later hb7) (by rw [List.length_map, Nat.mul_one]; have := HNE.out; omega) (by decide) (one_u8 er)) (by have := HNE.out; unfold maxLen; omega) (by have := HNE.out; omega) hb7.size ?_
          intro v' w8 hG
          have hb8 := grew_belowJ hb7 ho7 hG
          obtain ⟨A8, c8, rfl⟩ := own_shape hG.own
          have HO8 := Lib.hid (IsAt.own hG.own)
          obtain ⟨lw, hlw⟩ : ∃ lw, lx ++ er = lw := ⟨_, rfl⟩
          have hl8 : 0 + lx.length + (n2 - 4) = lw.length := by rw [← hlw, List.length_append]; have := HNE.out; omega
          rw [hl8]
          clear hG ho7
          refine hK.out _ _ (trivial) (fun _ => ?_)
          (try simp only [Act.put, List.setIfInBounds_toArray, List.set_cons_zero, List.set_cons_succ])
          clear hK K
          repeat (first | (refine seq_take (v := ?_) rfl ?_ ?_ ?_; rotate_left 1; rfl; (focus (intro wS hSw; obtain _ := hSw; go_simp; first | done | with_reducible rfl)); (try simp only [Act.put, List.setIfInBounds_toArray, List.set_cons_zero, List.set_cons_succ])) | (refine seq_skip rfl ?_ ?_; rfl; (try simp only [Act.put, List.setIfInBounds_toArray, List.set_cons_zero, List.set_cons_succ])))
          refine seq_run rfl (fun K hK => ?_)
          go_simp
          go_at_call 16
          have HJ2 : lz = lw := HJ.out.trans hlw
          refine (same18_any X3 A8 lz lw c3 c8 w8 (Row8.later ⟨HI3.out, HY3.out⟩ hb8) ⟨by rw [← hlw, List.map_append]; exact HO8.out, HJ2 ▸ HY3.out⟩).mono ?_
          rintro r w9 ⟨rfl, rfl⟩
          (try go_wp2_with fail)
          (try rw [decide_eq_true HJ2])
          refine hK.out _ _ (trivial) (fun _ => ?_)
          (try simp only [Act.put, List.setIfInBounds_toArray, List.set_cons_zero, List.set_cons_succ])
          clear hK K
          repeat (first | (refine seq_take (v := ?_) rfl ?_ ?_ ?_; rotate_left 1; rfl; (focus (intro wS hSw; obtain _ := hSw; go_simp; first | done | with_reducible rfl)); (try simp only [Act.put, List.setIfInBounds_toArray, List.set_cons_zero, List.set_cons_succ])) | (refine seq_skip rfl ?_ ?_; rfl; (try simp only [Act.put, List.setIfInBounds_toArray, List.set_cons_zero, List.set_cons_succ])))
          refine seq_done ?_
          have HZ := Lib.hid (below_step HB5.out hb8)
          clear hb0 hb1 hb7 hb8
          go_wp2_with fail
          go_ret
          exact ⟨rfl, HZ.out⟩
end Go.Proofs.Ytpfjommkjkbonaa
