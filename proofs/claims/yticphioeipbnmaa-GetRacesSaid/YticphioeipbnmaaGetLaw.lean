/-
  Contracts of package get, on: a step as a function on data (but for what stands at the end), what is told, one that is begun; what a call holds that has cells and a get. No condition but that numbers fit their kinds.
-/
import Derived.Test.YticphioeipbnmaaGetStep
namespace Go.Proofs.Yticphioeipbnmaa
open Go.RowKit
set_option linter.unusedVariables false

/-- A step; z is what stands at the end, where that is asked. -/
def Ge.step (k : Ge) (N hz : Nat) (C : List Int) (z : Int) : Ge :=
  if k.ph ≠ 0 then k else match k.ta with
    | none => k.read (k.sn.step C) z
    | some a => k.grab N (a.go a.slot.toNat (N + a.slot.toNat) C)
def Ge.cells (k : Ge) (N hz : Nat) (C : List Int) : List Int :=
  if k.ph ≠ 0 then C else match k.ta with
    | none => C
    | some a => a.cells a.slot.toNat hz C
def Ge.ev (k : Ge) (N hz : Nat) (C : List Int) : List Ev :=
  if k.ph ≠ 0 then [] else match k.ta with
    | none => k.sn.ev C
    | some a => a.ev a.slot.toNat (N + a.slot.toNat) hz C
/-- What is asked of z. -/
def Ge.ask (k : Ge) (C : List Int) (z : Int) : Prop := k.ph = 0 → k.ta = none → (k.sn.step C).ph = 1 → IsEnd (k.sn.step C).X k.e z

/-- What may be in it. -/
structure Ge.Ok (k : Ge) (N hz : Nat) (C : List Int) : Prop where
  lay : Lay k.t k.s N
  len : (C.length : Int) = 2 * N + 2 * k.t
  hzz : (hz : Int) = 2 * N + k.who
  w0 : 0 ≤ k.who
  w1 : k.who < k.t
  e : k.e = 0 ∨ k.e = 1
  t0 : 0 ≤ k.tries
  t1 : k.tries ≤ 1000000
  sN : k.sn.N = N
  sX : ∀ i, 0 ≤ k.sn.X.getD i 0 ∧ k.sn.X.getD i 0 ≤ 18446744073709551615
  sn : k.ph = 0 → k.ta = none → k.sn.Ok N C ∧ k.sn.ph = 0
  ta : k.ph = 0 → ∀ a, k.ta = some a → a.Ok N a.slot.toNat (N + a.slot.toNat) hz C ∧ a.ph = 0

theorem step_X {k : Sn} {C : List Int} (hX : ∀ i, 0 ≤ k.X.getD i 0 ∧ k.X.getD i 0 ≤ 18446744073709551615) (hC : ∀ i, 0 ≤ C.getD i 0 ∧ C.getD i 0 ≤ 18446744073709551615) : (k.step C).N = k.N ∧ ∀ i, 0 ≤ (k.step C).X.getD i 0 ∧ (k.step C).X.getD i 0 ≤ 18446744073709551615 := by
  have hp : ∀ i, 0 ≤ (k.X.set k.slot (C.getD k.slot 0)).getD i 0 ∧ (k.X.set k.slot (C.getD k.slot 0)).getD i 0 ≤ 18446744073709551615 := fun i => by
    rw [getD_set']
    split
    · exact hC _
    · exact hX i
  unfold Sn.step
  split
  · split
    · exact ⟨rfl, hp⟩
    · exact ⟨rfl, hp⟩
  · exact ⟨rfl, hX⟩
theorem IsMem.fit {base : Nat} {w : World} {p c : Nat} {v : Value} {C : List Int} {L : List Ev} (h : IsMem base w p c v C L) : ∀ j, 0 ≤ C.getD j 0 ∧ C.getD j 0 ≤ 18446744073709551615 := fun j => by
  by_cases hj : j < C.length
  · exact h.numAt (getD_in hj)
  · rw [List.getD_eq_getElem?_getD, List.getElem?_eq_none (by omega)]
    exact ⟨Int.le_refl _, by decide⟩

section
variable (base : Nat) (w : World) (b bs gs p c : Nat) (bt : Option Nat) (v : Value) (C : List Int) (L : List Ev) (k : Ge) (N hz : Nat)

set_option maxHeartbeats 2000000 in
theorem get_rest (hp : k.ph ≠ 0) (hT : IsGe base w b bs gs bt k) (hM : IsMem base w p c v C L) (ha : ∀ i, GeB b bs gs bt i → ¬ Foot p c v i) (hb : base ≤ w.heap.size) :
    Calls Try.prog 25 #[pt b, pt p] w fun r w' => r = .returned (i64 k.ph) ∧ GePost base w b bs gs bt p c v k C L w' := by
  have qp : (k.ph != 0) = true := by simp [hp]
  have HS := Lib.hid (Does.refl (B := GeB b bs gs bt) hM ha hb)
  have HT := Lib.hid hT
  have c10 := hT.obj.at' 10 _ rfl
  clear hT hM hp
  go_enter Try.func25, Try.ntmps25
  go_wp2
  go_ret
  exact ⟨rfl, v, bs, gs, bt, HS.out, HT.out, fun i hi => .inl hi, ha⟩

set_option maxHeartbeats 2000000 in
theorem get_read (Z : Ge → Prop) (C1 : List Int) (L1 : List Ev) (hp : k.ph = 0) (hta : bt = none) (hT : IsGe base w b bs gs bt k)
    (hin : Calls Try.prog 48 #[pt b, pt p] w fun r w' => r = .returned (.tuple #[]) ∧ ∃ k', Z k' ∧ GePost base w b bs gs bt p c v k' C1 L1 w') :
    Calls Try.prog 25 #[pt b, pt p] w fun r w' => ∃ k', Z k' ∧ r = .returned (i64 k'.ph) ∧ GePost base w b bs gs bt p c v k' C1 L1 w' := by
  have qp : (k.ph != 0) = false := by simp [hp]
  have HIN := Lib.hid hin
  have c10 := hT.obj.at' 10 _ rfl
  have c8 : w.cell? ⟨b, 8, none⟩ = some (.pointer none) := by have := hT.obj.at' 8 _ rfl; rw [hta] at this; exact this
  clear hT hp hin
  go_enter Try.func25, Try.ntmps25
  go_wp2_with fail
  refine HIN.out.mono ?_
  rintro r w1 ⟨rfl, k', hZ, v', bs', gs', bt', hD, hG, hF, hA⟩
  have d10 := hG.obj.at' 10 _ rfl
  have HZ := Lib.hid hZ
  have HR : Hid (GePost base w b bs gs bt p c v k' C1 L1 w1) := ⟨v', bs', gs', bt', hD, hG, hF, hA⟩
  clear c10 c8 hZ hD hG hF hA
  go_wp2
  go_ret
  exact ⟨k', HZ.out, rfl, HR.out⟩

set_option maxHeartbeats 2000000 in
theorem get_grab (Z : Ge → Prop) (x : Nat) (C1 : List Int) (L1 : List Ev) (hp : k.ph = 0) (hta : bt = some x) (hT : IsGe base w b bs gs bt k)
    (hin : Calls Try.prog 49 #[pt b, pt p] w fun r w' => r = .returned (.tuple #[]) ∧ ∃ k', Z k' ∧ GePost base w b bs gs bt p c v k' C1 L1 w') :
    Calls Try.prog 25 #[pt b, pt p] w fun r w' => ∃ k', Z k' ∧ r = .returned (i64 k'.ph) ∧ GePost base w b bs gs bt p c v k' C1 L1 w' := by
  have qp : (k.ph != 0) = false := by simp [hp]
  have HIN := Lib.hid hin
  have c10 := hT.obj.at' 10 _ rfl
  have c8 : w.cell? ⟨b, 8, none⟩ = some (pt x) := by have := hT.obj.at' 8 _ rfl; rw [hta] at this; exact this
  clear hT hp hin
  go_enter Try.func25, Try.ntmps25
  go_wp2_with fail
  refine HIN.out.mono ?_
  rintro r w1 ⟨rfl, k', hZ, v', bs', gs', bt', hD, hG, hF, hA⟩
  have d10 := hG.obj.at' 10 _ rfl
  have HZ := Lib.hid hZ
  have HR : Hid (GePost base w b bs gs bt p c v k' C1 L1 w1) := ⟨v', bs', gs', bt', hD, hG, hF, hA⟩
  clear c10 c8 hZ hD hG hF hA
  go_wp2
  go_ret
  exact ⟨k', HZ.out, rfl, HR.out⟩

/-- A step does what 'Ge.step' says. -/
theorem gestep_any (hk : k.Ok N hz C) (hT : IsGe base w b bs gs bt k) (hM : IsMem base w p c v C L) (ha : ∀ i, GeB b bs gs bt i → ¬ Foot p c v i) (hb : base ≤ w.heap.size) (hL : L.length < 1000000000) :
    Calls Try.prog 25 #[pt b, pt p] w fun r w' => ∃ z, k.ask C z ∧ r = .returned (i64 (k.step N hz C z).ph) ∧ GePost base w b bs gs bt p c v (k.step N hz C z) (k.cells N hz C) (L ++ k.ev N hz C) w' := by
  have hN1 := hk.lay.n1
  have hN2 := hk.lay.n2
  have hN3 := hk.lay.t1
  by_cases hp : k.ph ≠ 0
  · refine (get_rest base w b bs gs p c bt v C L k hp hT hM ha hb).mono ?_
    rintro r w' ⟨h1, h2⟩
    have e1 : ∀ z, k.step N hz C z = k := fun z => if_pos hp
    have e2 : k.cells N hz C = C := if_pos hp
    have e3 : k.ev N hz C = [] := if_pos hp
    refine ⟨0, fun h => absurd h hp, ?_, ?_⟩
    · rw [e1]
      exact h1
    · rw [e1, e2, e3, List.append_nil]
      exact h2
  · have hp0 : k.ph = 0 := Classical.not_not.1 hp
    rcases hT.ta with ⟨h1, h2⟩ | ⟨x, a, h1, h2, h3, h4⟩
    · obtain ⟨hs, hsp⟩ := hk.sn hp0 h2
      have e1 : ∀ z, k.step N hz C z = k.read (k.sn.step C) z := fun z => by unfold Ge.step; rw [if_neg hp, h2]
      have e2 : k.cells N hz C = C := by unfold Ge.cells; rw [if_neg hp, h2]
      have e3 : k.ev N hz C = k.sn.ev C := by unfold Ge.ev; rw [if_neg hp, h2]
      have hin := snstep_any base w bs gs p c v C L k.sn N hs hT.sn hM (fun i hi => by
        rcases hi with rfl | rfl
        · exact ha _ (.inr (.inl rfl))
        · exact ha _ (.inr (.inr (.inl rfl)))) hb hL
      obtain ⟨x1, x2⟩ := step_X hk.sX hM.fit
      rw [e2, e3]
      by_cases hd : (k.sn.step C).ph = 1
      · have hr := read_done base w b bs gs p c bt v C k N (k.sn.step C) (L ++ k.sn.ev C) hd (x1.trans hk.sN) (by omega) (by omega) hk.e x2 h2 hT ha hin
        refine (get_read base w b bs gs p c bt v k (fun k' => ∃ z, k.ask C z ∧ k' = k.step N hz C z) C (L ++ k.sn.ev C) hp0 h1 hT (hr.mono ?_)).mono ?_
        · rintro r w' ⟨g1, z, g2, g3⟩
          exact ⟨g1, k.read (k.sn.step C) z, ⟨z, fun _ _ _ => g2, (e1 z).symm⟩, g3⟩
        · rintro r w' ⟨k', ⟨z, g1, rfl⟩, g2, g3⟩
          exact ⟨z, g1, g2, g3⟩
      · have hr := read_more base w b bs gs p c bt v C k (k.sn.step C) (L ++ k.sn.ev C) hd hT ha hin
        refine (get_read base w b bs gs p c bt v k (fun k' => k' = k.step N hz C 0) C (L ++ k.sn.ev C) hp0 h1 hT (hr.mono ?_)).mono ?_
        · rintro r w' ⟨g1, g3⟩
          exact ⟨g1, { k with sn := k.sn.step C }, by rw [e1]; unfold Ge.read; rw [if_pos hd], g3⟩
        · rintro r w' ⟨k', rfl, g2, g3⟩
          exact ⟨0, fun _ _ h => absurd h hd, g2, g3⟩
    · obtain ⟨hok, hap⟩ := hk.ta hp0 a h2
      have e1 : ∀ z, k.step N hz C z = k.grab N (a.go a.slot.toNat (N + a.slot.toNat) C) := fun z => by unfold Ge.step; rw [if_neg hp, h2]
      have e2 : k.cells N hz C = a.cells a.slot.toNat hz C := by unfold Ge.cells; rw [if_neg hp, h2]
      have e3 : k.ev N hz C = a.ev a.slot.toNat (N + a.slot.toNat) hz C := by unfold Ge.ev; rw [if_neg hp, h2]
      have hin := tastep_any base w x p c v C L a N a.slot.toNat (N + a.slot.toNat) hz hok h3 hM (ha x (.inr (.inr (.inr h1)))) hb hL
      rw [e2, e3]
      subst h1
      have hr : Calls Try.prog 49 #[pt b, pt p] w fun r w' => r = .returned (.tuple #[]) ∧ GePost base w b bs gs (some x) p c v (k.grab N (a.go a.slot.toNat (N + a.slot.toNat) C)) (a.cells a.slot.toNat hz C) (L ++ a.ev a.slot.toNat (N + a.slot.toNat) hz C) w' := by
        by_cases d1 : (a.go a.slot.toNat (N + a.slot.toNat) C).ph = 1
        · exact grab_done base w b bs gs p c x v k N _ _ _ d1 hT ha hin
        · by_cases d2 : (a.go a.slot.toNat (N + a.slot.toNat) C).ph = 2
          · exact grab_lost base w b bs gs p c x v k N _ _ _ d2 hk.lay hk.t0 hk.t1 hT ha hb hin
          · exact grab_on base w b bs gs p c x v k N _ _ _ d1 d2 hT ha hin
      refine (get_grab base w b bs gs p c (some x) v k (fun k' => k' = k.step N hz C 0) x (a.cells a.slot.toNat hz C) (L ++ a.ev a.slot.toNat (N + a.slot.toNat) hz C) hp0 rfl hT (hr.mono ?_)).mono ?_
      · rintro r w' ⟨g1, g3⟩
        exact ⟨g1, _, (e1 0).symm, g3⟩
      · rintro r w' ⟨k', rfl, g2, g3⟩
        exact ⟨0, (fun _ h => by rw [h2] at h; cases h), g2, g3⟩

set_option maxHeartbeats 1000000 in
theorem gephase_any (hT : IsGe base w b bs gs bt k) : Calls Try.prog 30 #[pt b] w fun r w' => r = .returned (i64 k.ph) ∧ w = w' := by
  have c10 := hT.obj.at' 10 _ rfl
  go_enter Try.func30, Try.ntmps30
  go_wp2
  go_ret
  exact ⟨rfl, rfl⟩
set_option maxHeartbeats 1000000 in
theorem getries_any (hT : IsGe base w b bs gs bt k) : Calls Try.prog 27 #[pt b] w fun r w' => r = .returned (i64 k.tries) ∧ w = w' := by
  have c9 := hT.obj.at' 9 _ rfl
  go_enter Try.func27, Try.ntmps27
  go_wp2
  go_ret
  exact ⟨rfl, rfl⟩

/-- What was taken. -/
def Ge.val (k : Ge) : Int := if k.ph = 1 then match k.ta with | none => 0 | some a => if a.ph = 1 then a.value else 0 else 0
set_option maxHeartbeats 2000000 in
theorem gevalue_any (hT : IsGe base w b bs gs bt k) (h1 : k.ph = 1 → k.ta ≠ none) : Calls Try.prog 28 #[pt b] w fun r w' => r = .returned (u64 k.val) ∧ w = w' := by
  have c10 := hT.obj.at' 10 _ rfl
  unfold Ge.val
  by_cases h : k.ph = 1
  · rw [if_pos h]
    have q : (k.ph != 1) = false := by simp [h]
    rcases hT.ta with ⟨e1, e2⟩ | ⟨x, a, e1, e2, e3, e4⟩
    · exact absurd e2 (h1 h)
    · have c8 : w.cell? ⟨b, 8, none⟩ = some (pt x) := by have := hT.obj.at' 8 _ rfl; rw [e1] at this; exact this
      have HO := Lib.hid e3
      rw [e2]
      obtain ⟨z, hz⟩ : ∃ z, (if a.ph = 1 then a.value else 0) = z := ⟨_, rfl⟩
      have HZ := Lib.hid hz
      simp only [hz]
      clear h h1 hT e1 e2 e3 hz
      go_enter Try.func28, Try.ntmps28
      go_wp2_with fail
      refine (tavalue_at z HZ.out HO.out).mono ?_
      rintro r w' ⟨rfl, rfl⟩
      go_wp2
      go_ret
      exact ⟨rfl, rfl⟩
  · rw [if_neg h]
    have q : (k.ph != 1) = true := by simp [h]
    clear h h1 hT
    go_enter Try.func28, Try.ntmps28
    go_wp2
    go_ret
    exact ⟨rfl, rfl⟩

set_option maxHeartbeats 2000000 in
theorem gealone_any (t s so d : Int) (hl : Lay t s N) (hN : N ≤ 4096) : Calls Try.prog 32 #[cf t s so d] w fun r w' => r = .returned (i64 (2 * (N : Int) + 5)) ∧ Below w.heap.size w w' := by
  go_enter Try.func32, Try.ntmps32
  go_wp2_with fail
  refine (call_any t s so d N _ hl).mono ?_
  rintro r w1 ⟨rfl, hb1⟩
  have hbf := Lib.hid (below_step (below_new (Below.refl w.heap.size w) (.cells #[.int .i64 t, .int .i64 s, .int .i64 so, .int .i64 d] 27)) hb1)
  clear hb1
  go_wp2
  go_ret
  exact ⟨rfl, hbf.out⟩

/-- A get that is begun. -/
def ge0 (t s so d who e start : Int) (N : Nat) : Ge := ⟨t, s, so, d, who, e, start, 0, 0, sn0 t s so d who (IntKind.u64.wrap start % N) N, none⟩

set_option maxHeartbeats 4000000 in
theorem genew_any (t s so d who e start : Int) (hl : Lay t s N) (hb : base ≤ w.heap.size) :
    Calls Try.prog 10 #[cf t s so d, i64 who, i64 e, i64 start] w fun r w' => ∃ b bs gs, r = .returned (pt b) ∧ IsGe base w' b bs gs none (ge0 t s so d who e start N) ∧ Below w.heap.size w w' ∧ ∀ i, GeB b bs gs none i → w.heap.size ≤ i := by
  have HA : Hid (AtC (w.alloc (.cells #[.int .i64 t, .int .i64 s, .int .i64 so, .int .i64 d] 27)).drew w.heap.size t s so d) := (AtC.made w t s so d).later (n := w.heap.size + 1) (Below.refl _ _).drew (by omega)
  have HB : Hid (Below w.heap.size w (w.alloc (.cells #[.int .i64 t, .int .i64 s, .int .i64 so, .int .i64 d] 27)).drew) := (below_new (Below.refl _ _) _).drew
  have hs0 : w.heap.size + 1 = (w.alloc (.cells #[.int .i64 t, .int .i64 s, .int .i64 so, .int .i64 d] 27)).heap.size := by simp
  have Hs : Hid (w.heap.size + 1 = (w.alloc (.cells #[.int .i64 t, .int .i64 s, .int .i64 so, .int .i64 d] 27)).drew.heap.size) := hs0
  clear hs0
  go_enter Try.func10, Try.ntmps10
  go_wp2_with fail
  refine wp_region_seqS ((fun w' => AtC w' w.heap.size t s so d)) ((0, true) :: (1, true) :: (2, true) :: (3, true) :: (4, true) :: (5, true) :: (6, true) :: (7, false) :: (8, true) :: (9, false) :: (10, true) :: []) (by kernel_rfl) (by kernel_rfl) (by kernel_rfl) (by decide) (fun _ _ _ _ _ h => h) (HA.out) ?_
  generalize (w.alloc (.cells #[.int .i64 t, .int .i64 s, .int .i64 so, .int .i64 d] 27)).drew = wA at HA HB Hs ⊢
  repeat (first | (refine seq_take (v := ?_) rfl ?_ ?_ ?_; rotate_left 1; rfl; (focus (intro wS hSw; obtain ⟨c0, c1, c2, c3⟩ := hSw; go_simp; first | done | with_reducible rfl)); (try simp only [Act.put, List.setIfInBounds_toArray, List.set_cons_zero, List.set_cons_succ])) | (refine seq_skip rfl ?_ ?_; rfl; (try simp only [Act.put, List.setIfInBounds_toArray, List.set_cons_zero, List.set_cons_succ])))
  refine seq_run rfl (fun K hK => ?_)
  go_simp
  go_at_call 12
  refine (snnew_any base _ t s so d who start N N hl rfl (by have := Hs.out; omega)).mono ?_
  rintro r wB ⟨bs, gs, rfl, hO1, hb1, hs1, hs2⟩
  (try go_wp2_with fail)
  replace HA := Lib.hid (HA.out.later hb1 (by have := Hs.out; omega))
  have HO1 := Lib.hid hO1
  have HB1 := Lib.hid hb1
  have Hs1 := Lib.hid hs1
  have Hs2 := Lib.hid hs2
  have Hlt : Hid (bs < wB.heap.size ∧ gs < wB.heap.size) := ⟨hO1.obj.lt, hO1.gb.2⟩
  clear hO1 hb1 hs1 hs2
  refine hK.out _ _ (HA.out) (fun _ => ?_)
  (try simp only [Act.put, List.setIfInBounds_toArray, List.set_cons_zero, List.set_cons_succ])
  clear hK K
  repeat (first | (refine seq_take (v := ?_) rfl ?_ ?_ ?_; rotate_left 1; rfl; (focus (intro wS hSw; obtain ⟨c0, c1, c2, c3⟩ := hSw; go_simp; first | done | with_reducible rfl)); (try simp only [Act.put, List.setIfInBounds_toArray, List.set_cons_zero, List.set_cons_succ])) | (refine seq_skip rfl ?_ ?_; rfl; (try simp only [Act.put, List.setIfInBounds_toArray, List.set_cons_zero, List.set_cons_succ])))
  refine seq_run rfl (fun K hK => ?_)
  go_simp
  have hO3 : IsObj (wB.alloc (.cells #[.int .i64 t, .int .i64 s, .int .i64 so, .int .i64 d, .int .i64 who, .int .i64 e, .int .i64 start, pt bs, .pointer none, .int .i64 0, .int .i64 0] 81)) wB.heap.size ((ge0 t s so d who e start N).list bs none) := IsObj.made wB ((ge0 t s so d who e start N).list bs none) 81
  have HO3 := Lib.hid hO3
  have hb3 := below_new (Below.refl wB.heap.size wB) (.cells #[.int .i64 t, .int .i64 s, .int .i64 so, .int .i64 d, .int .i64 who, .int .i64 e, .int .i64 start, pt bs, .pointer none, .int .i64 0, .int .i64 0] 81)
  have HB3 := Lib.hid hb3
  replace HA := Lib.hid (HA.out.later hb3 (by have := Hs.out; have := HB1.out.size; omega))
  clear hb3 hO3
  refine hK.out _ _ (HA.out) (fun _ => ?_)
  (try simp only [Act.put, List.setIfInBounds_toArray, List.set_cons_zero, List.set_cons_succ])
  clear hK K
  repeat (first | (refine seq_take (v := ?_) rfl ?_ ?_ ?_; rotate_left 1; rfl; (focus (intro wS hSw; obtain ⟨c0, c1, c2, c3⟩ := hSw; go_simp; first | done | with_reducible rfl)); (try simp only [Act.put, List.setIfInBounds_toArray, List.set_cons_zero, List.set_cons_succ])) | (refine seq_skip rfl ?_ ?_; rfl; (try simp only [Act.put, List.setIfInBounds_toArray, List.set_cons_zero, List.set_cons_succ])))
  refine seq_done ?_
  go_wp2
  go_ret
  have e0 := HB1.out.size
  have e4 := Hs.out
  have e5 := Hs1.out
  have e6 := Hs2.out
  have e7 := Hlt.out
  refine ⟨wB.heap.size, bs, gs, rfl, ⟨HO3.out, HO1.out.later HB3.out, .inl ⟨rfl, rfl⟩, by omega, by omega, by omega, fun _ h => by cases h⟩, below_step' HB.out (below_step' HB1.out HB3.out e0) (by omega), ?_⟩
  rintro i (rfl | rfl | rfl | h)
  · omega
  · omega
  · omega
  · cases h
end

end Go.Proofs.Yticphioeipbnmaa
