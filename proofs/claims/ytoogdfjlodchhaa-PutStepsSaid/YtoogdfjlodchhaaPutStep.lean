/-
  The contracts of what is told of a put, of one that is begun, and of a step of it; what a call holds that has cells and a put. No condition but that numbers fit their kinds.
-/
import Derived.Test.YtoogdfjlodchhaaPutCalls
namespace Go.Proofs.Ytoogdfjlodchhaa
open Go.RowKit
set_option linter.unusedVariables false

section
variable (base : Nat) (w : World) (b b1 b2 p c : Nat) (v : Value) (C : List Int) (L : List Ev) (k : Pu) (N : Nat) (m : Int) (nb hz : Nat) (now : Int)

theorem getD_pu {C : List Int} {i : Nat} (h : i < C.length) : C[i]? = some (C.getD i 0) := by
  rw [List.getD_eq_getElem?_getD, List.getElem?_eq_getElem h]
  rfl

/-- A step does what 'Pu.step' says. -/
theorem pustep_any (hk : k.Ok N m nb hz C) (n0 : 0 ≤ now) (hT : IsPu w b b1 b2 k) (hM : IsMem base w p c v C L) (ha : ∀ i, PuB b b1 b2 i → ¬ Foot p c v i) (hb : base ≤ w.heap.size) (hL : L.length < 1000000000) :
    Calls Try.prog 34 #[pt b, pt p, i64 now] w (PuPost base w b b1 b2 p c v (k.step m nb hz C now) (k.cells N nb C now) (L ++ k.ev N nb hz C now) (.returned (i64 (k.step m nb hz C now).ph))) := by
  have hl := hk.cl.lay
  have h1 := hk.cl.len; have h2 := hk.cl.s0; have h3 := hk.cl.s1; have h4 := hk.cl.m0; have h5 := hk.cl.m1; have h6 := hl.n1; have h7 := hl.t1
  rw [hk.ct, hk.cs] at hl
  unfold Pu.step Pu.cells Pu.ev
  by_cases hp : k.ph ≠ 0
  · rw [if_pos hp, if_pos hp, if_pos hp, List.append_nil]
    exact put_rest base w b b1 b2 p c v C L k now hp hT hM ha hb
  · rw [if_neg hp, if_neg hp, if_neg hp]
    have hp0 : k.ph = 0 := Classical.not_not.1 hp
    rcases hk.at' hp0 with ⟨h, hc, ht⟩ | ⟨h, hc, ht⟩ | ⟨h, hc, ht⟩ | ⟨h, hc, ht⟩
    · rw [if_pos h, if_pos h, if_pos h]
      exact put_find base w b b1 b2 p c v k now _ _ _ hp0 h hT ha (clstep_any base w b1 p c v C L k.cl N m hz hk.cl hT.cl hM (ha b1 (.inr (.inl rfl))) hb hL)
    · have e0 : ¬ k.next = 0 := by omega
      rw [if_neg e0, if_neg e0, if_neg e0, if_pos h, if_pos h, if_pos h]
      exact put_date base w b b1 b2 p c v k now _ _ _ hp0 h hT ha (step_any base w b2 p c v C L k.tk nb N now hk.tk n0 hT.tk hM (ha b2 (.inr (.inr rfl))) hb hL)
    · have e0 : ¬ k.next = 0 := by omega
      have e1 : ¬ k.next = 1 := by omega
      rw [if_neg e0, if_neg e0, if_neg e0, if_neg e1, if_neg e1, if_neg e1, if_pos h, if_pos h, if_pos h]
      have := put_fill base w b b1 b2 p c v C L k N now hp0 h k.cl.slot.toNat (by omega) hl (by omega) _ (getD_pu (by omega)) hk.v0 hk.v1 hT hM ha hb hL
      rw [show i64 0 = i64 k.ph by rw [hp0]] at this
      exact this
    · have e0 : ¬ k.next = 0 := by omega
      have e1 : ¬ k.next = 1 := by omega
      have e2 : ¬ k.next = 2 := by omega
      rw [if_neg e0, if_neg e0, if_neg e0, if_neg e1, if_neg e1, if_neg e1, if_neg e2, if_neg e2, if_neg e2]
      have hg := hk.wg (.inl hc)
      have hs := hk.st ht
      exact put_show base w b b1 b2 p c v C L k now hp0 h k.cl.slot.toNat (by omega) _ (getD_pu (by omega)) hc hg.1 hg.2 hs.1 hs.2.1 hs.2.2 hk.e0 hk.e1 hT hM ha hb hL

set_option maxHeartbeats 1000000 in
theorem puphase_any (hT : IsObj w b (k.list b1 b2)) : Calls Try.prog 41 #[pt b] w fun r w' => r = .returned (i64 k.ph) ∧ w = w' := by
  obtain ⟨c0, c1, c2, c3, c4, c5, c6, c7, c8, c9, c10⟩ := hT.pu
  go_enter Try.func41, Try.ntmps41
  go_wp2
  go_ret
  exact ⟨rfl, rfl⟩

set_option maxHeartbeats 1000000 in
theorem puslot_any (hT : IsPu w b b1 b2 k) : Calls Try.prog 36 #[pt b] w fun r w' => r = .returned (i64 (if k.ph = 1 then k.cl.slot else -1)) ∧ w = w' := by
  obtain ⟨c0, c1, c2, c3, c4, c5, c6, c7, c8, c9, c10⟩ := hT.obj.pu
  by_cases h : k.ph = 1
  · rw [if_pos h]
    have q : (k.ph != 1) = false := by simp [h]
    have HT := Lib.hid hT
    clear h hT
    go_enter Try.func36, Try.ntmps36
    go_wp2_with fail
    refine (clslot_any _ b1 _ HT.out.cl).mono ?_
    rintro r w' ⟨rfl, rfl⟩
    go_wp2
    go_ret
    exact ⟨rfl, rfl⟩
  · rw [if_neg h]
    have q : (k.ph != 1) = true := by simp [h]
    clear h hT
    go_enter Try.func36, Try.ntmps36
    go_wp2
    go_ret
    exact ⟨rfl, rfl⟩

set_option maxHeartbeats 1000000 in
theorem pustamp_yes (hp : k.ph = 1) (hT : IsPu w b b1 b2 k) : Calls Try.prog 37 #[pt b] w fun r w' => r = .returned (st k.tk.lo k.tk.hi) ∧ Below w.heap.size w w' := by
  obtain ⟨c0, c1, c2, c3, c4, c5, c6, c7, c8, c9, c10⟩ := hT.obj.pu
  have q : (k.ph != 1) = false := by simp [hp]
  have HT := Lib.hid hT
  have hlt := hT.obj.lt
  clear hp hT
  go_enter Try.func37, Try.ntmps37
  go_wp2_with fail
  have HK := Lib.hid (stamp_any (w.alloc (.cells #[i64 0, i64 0] 52)) b2 _ (HT.out.later (below_new (Below.refl _ _) _)).tk)
  refine HK.out.mono ?_
  rintro r w1 ⟨rfl, hb1⟩
  obtain ⟨hc, hf⟩ := bcell hb1
  go_wp2
  have k0 : (w1.cell? ⟨w.heap.size, 0, none⟩).isSome = true := by rw [hc _ _ (by simp)]; simp [go_sem]
  have k1 : (w1.cell? ⟨w.heap.size, 1, none⟩).isSome = true := by rw [hc _ _ (by simp)]; simp [go_sem]
  exact bodyPost_ret (v := st k.tk.lo k.tk.hi) (by simp [results, Try.results37, go_sem, k0, k1]) rfl ⟨rfl, below_set (below_set (below_step (below_new (Below.refl _ _) _) hb1) (by simp) _) (by simp) _⟩

set_option maxHeartbeats 1000000 in
theorem pustamp_no (hp : k.ph ≠ 1) (hT : IsPu w b b1 b2 k) : Calls Try.prog 37 #[pt b] w fun r w' => r = .returned (st 0 0) ∧ Below w.heap.size w w' := by
  obtain ⟨c0, c1, c2, c3, c4, c5, c6, c7, c8, c9, c10⟩ := hT.obj.pu
  have q : (k.ph != 1) = true := by simp [hp]
  have hlt := hT.obj.lt
  clear hp hT
  go_enter Try.func37, Try.ntmps37
  go_wp2
  exact bodyPost_ret (v := st 0 0) (by simp [results, Try.results37, go_sem]) rfl ⟨rfl, by first | exact below_new (Below.refl _ _) _ | exact below_set (below_set (below_new (Below.refl _ _) _) (by simp) _) (by simp) _⟩

/-- A put that is begun. -/
def pu0 (t s so d who e value m : Int) : Pu := ⟨t, s, so, d, who, e, value, 0, 0, cl0 t s so d who m, tk0 t s so d who⟩

set_option maxHeartbeats 4000000 in
theorem punew_any (t s so d who e value : Int) (hl : Lay t s N) (w0 : 0 ≤ who) (w1 : who < t) (hm : who * s = m) (m0 : 0 ≤ m) (m1 : m + s ≤ N) :
    Calls Try.prog 18 #[cf t s so d, i64 who, i64 e, u64 value] w fun r w' => ∃ b b1 b2, r = .returned (pt b) ∧ IsPu w' b b1 b2 (pu0 t s so d who e value m) ∧ Below w.heap.size w w' ∧ ∀ i, PuB b b1 b2 i → w.heap.size ≤ i := by
  have Hm := Lib.hid hm
  have HA : Hid (AtC (w.alloc (.cells #[.int .i64 t, .int .i64 s, .int .i64 so, .int .i64 d] 29)).drew w.heap.size t s so d) := (AtC.made w t s so d).later (n := w.heap.size + 1) (Below.refl _ _).drew (by omega)
  have HB : Hid (Below w.heap.size w (w.alloc (.cells #[.int .i64 t, .int .i64 s, .int .i64 so, .int .i64 d] 29)).drew) := (below_new (Below.refl _ _) _).drew
  have hs0 : w.heap.size + 1 = (w.alloc (.cells #[.int .i64 t, .int .i64 s, .int .i64 so, .int .i64 d] 29)).heap.size := by simp
  have Hs : Hid (w.heap.size + 1 = (w.alloc (.cells #[.int .i64 t, .int .i64 s, .int .i64 so, .int .i64 d] 29)).drew.heap.size) := hs0
  clear hs0
  clear hm
  go_enter Try.func18, Try.ntmps18
  go_wp2_with fail
  refine wp_region_seqS ((fun w' => AtC w' w.heap.size t s so d)) ((0, true) :: (1, true) :: (2, true) :: (3, true) :: (4, true) :: (5, true) :: (7, true) :: (8, true) :: (6, false) :: (9, false) :: (10, true) :: (11, false) :: (12, true) :: []) (by kernel_rfl) (by kernel_rfl) (by kernel_rfl) (by decide) (fun _ _ _ _ _ h => h) (HA.out) ?_
  generalize (w.alloc (.cells #[.int .i64 t, .int .i64 s, .int .i64 so, .int .i64 d] 29)).drew = wA at HA HB Hs ⊢
  repeat (first | (refine seq_take (v := ?_) rfl ?_ ?_ ?_; rotate_left 1; rfl; (focus (intro wS hSw; obtain ⟨c0, c1, c2, c3⟩ := hSw; go_simp; first | done | with_reducible rfl)); (try simp only [Act.put, List.setIfInBounds_toArray, List.set_cons_zero, List.set_cons_succ])) | (refine seq_skip rfl ?_ ?_; rfl; (try simp only [Act.put, List.setIfInBounds_toArray, List.set_cons_zero, List.set_cons_succ])))
  refine seq_run rfl (fun K hK => ?_)
  go_simp
  go_at_call 19
  refine (clnew_any _ N m t s so d who hl w0 w1 Hm.out m0 m1).mono ?_
  rintro r wB ⟨b1, rfl, hO1, hb1, hs1⟩
  (try go_wp2_with fail)
  replace HA := Lib.hid (HA.out.later hb1 (by have := Hs.out; omega))
  have HO1 := Lib.hid hO1
  have Hlt := Lib.hid hO1.lt
  have HB1 := Lib.hid hb1
  have Hs1 := Lib.hid hs1
  clear hO1 hb1 hs1
  refine hK.out _ _ (HA.out) (fun _ => ?_)
  (try simp only [Act.put, List.setIfInBounds_toArray, List.set_cons_zero, List.set_cons_succ])
  clear hK K
  repeat (first | (refine seq_take (v := ?_) rfl ?_ ?_ ?_; rotate_left 1; rfl; (focus (intro wS hSw; obtain ⟨c0, c1, c2, c3⟩ := hSw; go_simp; first | done | with_reducible rfl)); (try simp only [Act.put, List.setIfInBounds_toArray, List.set_cons_zero, List.set_cons_succ])) | (refine seq_skip rfl ?_ ?_; rfl; (try simp only [Act.put, List.setIfInBounds_toArray, List.set_cons_zero, List.set_cons_succ])))
  refine seq_run rfl (fun K hK => ?_)
  go_simp
  go_at_call 20
  refine (tnew_any _ t s so d who).mono ?_
  rintro r wC ⟨b2, rfl, hO2, hb2, hs2⟩
  (try go_wp2_with fail)
  replace HA := Lib.hid (HA.out.later hb2 (by have := Hs.out; have := HB1.out.size; omega))
  replace HO1 := Lib.hid (HO1.out.later hb2)
  have HO2 := Lib.hid hO2
  have HB2 := Lib.hid hb2
  have Hs2 := Lib.hid hs2
  clear hO2 hb2 hs2
  refine hK.out _ _ (HA.out) (fun _ => ?_)
  (try simp only [Act.put, List.setIfInBounds_toArray, List.set_cons_zero, List.set_cons_succ])
  clear hK K
  repeat (first | (refine seq_take (v := ?_) rfl ?_ ?_ ?_; rotate_left 1; rfl; (focus (intro wS hSw; obtain ⟨c0, c1, c2, c3⟩ := hSw; go_simp; first | done | with_reducible rfl)); (try simp only [Act.put, List.setIfInBounds_toArray, List.set_cons_zero, List.set_cons_succ])) | (refine seq_skip rfl ?_ ?_; rfl; (try simp only [Act.put, List.setIfInBounds_toArray, List.set_cons_zero, List.set_cons_succ])))
  refine seq_run rfl (fun K hK => ?_)
  go_simp
  have hO3 : IsObj (wC.alloc (.cells #[.int .i64 t, .int .i64 s, .int .i64 so, .int .i64 d, .int .i64 who, .int .i64 e, .int .u64 value, .int .i64 0, pt b1, pt b2, .int .i64 0] 110)) wC.heap.size ((pu0 t s so d who e value m).list b1 b2) := IsObj.made wC ((pu0 t s so d who e value m).list b1 b2) 110
  have HO3 := Lib.hid hO3
  have hb3 := below_new (Below.refl wC.heap.size wC) (.cells #[.int .i64 t, .int .i64 s, .int .i64 so, .int .i64 d, .int .i64 who, .int .i64 e, .int .u64 value, .int .i64 0, pt b1, pt b2, .int .i64 0] 110)
  have HB3 := Lib.hid hb3
  replace HA := Lib.hid (HA.out.later hb3 (by have := Hs.out; have := HB1.out.size; have := HB2.out.size; omega))
  clear hb3 hO3
  refine hK.out _ _ (HA.out) (fun _ => ?_)
  (try simp only [Act.put, List.setIfInBounds_toArray, List.set_cons_zero, List.set_cons_succ])
  clear hK K
  repeat (first | (refine seq_take (v := ?_) rfl ?_ ?_ ?_; rotate_left 1; rfl; (focus (intro wS hSw; obtain ⟨c0, c1, c2, c3⟩ := hSw; go_simp; first | done | with_reducible rfl)); (try simp only [Act.put, List.setIfInBounds_toArray, List.set_cons_zero, List.set_cons_succ])) | (refine seq_skip rfl ?_ ?_; rfl; (try simp only [Act.put, List.setIfInBounds_toArray, List.set_cons_zero, List.set_cons_succ])))
  refine seq_done ?_
  go_wp2
  go_ret
  have e0 := HB1.out.size
  have e1 := HB2.out.size
  have e2 := HO1.out.lt
  have e3 := HO2.out.lt
  have e4 := Hs.out
  have e5 := Hs1.out
  have e6 := Hs2.out
  have e7 := Hlt.out
  refine ⟨wC.heap.size, b1, b2, rfl, ⟨HO3.out, HO1.out.later HB3.out, HO2.out.later HB3.out, by omega, by omega, by omega⟩, below_step' HB.out (below_step' HB1.out (below_step' HB2.out HB3.out e1) e0) (by omega), ?_⟩
  rintro i (rfl | rfl | rfl)
  · omega
  · omega
  · omega
end

end Go.Proofs.Ytoogdfjlodchhaa
