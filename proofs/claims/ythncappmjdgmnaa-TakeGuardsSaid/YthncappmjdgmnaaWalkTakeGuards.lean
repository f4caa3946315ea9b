/-
  TakeGuards answers true for all numbers, and leaves all memory that was there as it was. No condition.
-/
import Derived.Test.YthncappmjdgmnaaTakeEqs
namespace Go.Proofs.Ythncappmjdgmnaa
open Go.RowKit
set_option linter.unusedVariables false
attribute [local go_sem ↓] fld0

/-- What holds behind q steps, whatever was put into the place meanwhile. -/
def InvG (hz q : Nat) (k : Ta) (C : List Int) : Prop :=
  (k.ph = 0 ∧ ((k.next = (q : Int) ∧ k.lost = false ∧ q ≤ 4) ∨ (k.next = 4 ∧ k.lost = true ∧ (q = 2 ∨ q = 4))) ∧ (1 ≤ q → C.getD hz 0 = k.slot + 1)) ∨ ((k.ph = 1 ∨ k.ph = 2) ∧ 3 ≤ q ∧ q ≤ 5 ∧ C.getD hz 0 = 0)
theorem InvG.step {hz j jv q : Nat} {k : Ta} {C : List Int} (h : InvG hz q k C) (hp : k.ph = 0) (hjz : j ≠ hz) (hl : hz < C.length) : InvG hz (q + 1) (k.go j jv C) (k.cells j hz C) := by
  rcases h with ⟨_, h, hC⟩ | ⟨h, _⟩
  · rcases h with ⟨hn, hlo, hq⟩ | ⟨hn, hlo, hq⟩
    · rcases (by omega : q = 0 ∨ q = 1 ∨ q = 2 ∨ q = 3 ∨ q = 4) with rfl | rfl | rfl | rfl | rfl
      · obtain ⟨e1, e2, _⟩ := go_0 (j := j) (jv := jv) (hz := hz) (C := C) hp hn
        rw [e1, e2]
        exact .inl ⟨hp, .inl ⟨rfl, hlo, by omega⟩, fun _ => getD_set_eq' _ hl⟩
      · by_cases hw : C.getD j 0 = k.word
        · obtain ⟨e1, e2, _⟩ := go_1y (j := j) (jv := jv) (hz := hz) (C := C) hp hn hw
          rw [e1, e2]
          exact .inl ⟨hp, .inl ⟨rfl, hlo, by omega⟩, fun _ => hC (by omega)⟩
        · obtain ⟨e1, e2, _⟩ := go_1n (j := j) (jv := jv) (hz := hz) (C := C) hp hn hw
          rw [e1, e2]
          exact .inl ⟨hp, .inr ⟨rfl, rfl, .inl rfl⟩, fun _ => hC (by omega)⟩
      · obtain ⟨e1, e2, _⟩ := go_2 (j := j) (jv := jv) (hz := hz) (C := C) hp hn
        rw [e1, e2]
        exact .inl ⟨hp, .inl ⟨rfl, hlo, by omega⟩, fun _ => hC (by omega)⟩
      · by_cases hw : C.getD j 0 = k.word
        · obtain ⟨e1, e2, _⟩ := go_3y (j := j) (jv := jv) (hz := hz) (C := C) hp hn hw
          rw [e1, e2]
          exact .inl ⟨hp, .inl ⟨rfl, hlo, by omega⟩, fun _ => by rw [getD_set_ne' _ hjz]; exact hC (by omega)⟩
        · obtain ⟨e1, e2, _⟩ := go_3n (j := j) (jv := jv) (hz := hz) (C := C) hp hn hw
          rw [e1, e2]
          exact .inl ⟨hp, .inr ⟨rfl, rfl, .inr rfl⟩, fun _ => hC (by omega)⟩
      · obtain ⟨e1, e2, _⟩ := go_4y (j := j) (jv := jv) (hz := hz) (C := C) hp hn hlo
        rw [e1, e2]
        exact .inr ⟨.inl rfl, by omega, by omega, getD_set_eq' _ hl⟩
    · obtain ⟨e1, e2, _⟩ := go_4n (j := j) (jv := jv) (hz := hz) (C := C) hp hn hlo
      rw [e1, e2]
      exact .inr ⟨.inr rfl, by omega, by omega, getD_set_eq' _ hl⟩
  · omega
theorem InvG.other {hz j q : Nat} {k : Ta} {C : List Int} (h : InvG hz q k C) (x : Int) (hjz : j ≠ hz) : InvG hz q k (C.set j x) := by
  unfold InvG at h ⊢
  rw [getD_set_ne' _ hjz]
  exact h
theorem InvG.going {hz q : Nat} {k : Ta} {C : List Int} (h : InvG hz q k C) (hp : k.ph = 0) (h1 : 1 ≤ q) : q ≤ 4 ∧ C.getD hz 0 = k.slot + 1 := by
  rcases h with ⟨_, h, hC⟩ | ⟨h, _⟩
  · exact ⟨by rcases h with ⟨_, _, h⟩ | ⟨_, _, h⟩ <;> omega, hC h1⟩
  · omega
theorem InvG.done {hz q : Nat} {k : Ta} {C : List Int} (h : InvG hz q k C) (hp : k.ph ≠ 0) : 3 ≤ q ∧ q ≤ 5 ∧ C.getD hz 0 = 0 := by
  rcases h with ⟨h, _⟩ | ⟨_, h⟩
  · exact absurd h hp
  · exact h
theorem InvG.le {hz q : Nat} {k : Ta} {C : List Int} (h : InvG hz q k C) : q ≤ 5 := by
  rcases h with ⟨_, h, _⟩ | ⟨_, _, h, _⟩
  · rcases h with ⟨_, _, h⟩ | ⟨_, _, h⟩ <;> omega
  · exact h

set_option maxRecDepth 100000 in
set_option maxHeartbeats 8000000 in
theorem walk_TakeGuards (a0 : Int) (a1 : Int) (a2 : Int) (a3 : Int) (a4 : Int) (a5 : Int) (w : World) (w0 : (Lit.int .i64 a0).wf = true) (w1 : (Lit.int .i64 a1).wf = true) (w2 : (Lit.int .i64 a2).wf = true) (w3 : (Lit.int .i64 a3).wf = true) (w4 : (Lit.int .i64 a4).wf = true) (w5 : (Lit.int .u64 a5).wf = true) :
    Calls Try.prog 12 #[.int .i64 a0, .int .i64 a1, .int .i64 a2, .int .i64 a3, .int .i64 a4, .int .u64 a5] w fun e w' => e = .returned (.bool true) ∧ Below w.heap.size w w' := by
  obtain ⟨x0, x1⟩ := bounds_u64 w5
  clear w0 w1 w2 w3 w4 w5
  obtain ⟨u2, hu2, l2, g2⟩ : ∃ u, bits .and .i64 a2 65535 = u ∧ 0 ≤ u ∧ u ≤ 65535 := ⟨_, and_ffff a2, by omega, by omega⟩
  obtain ⟨u3, hu3, l3, g3⟩ : ∃ u, bits .and .i64 a3 65535 = u ∧ 0 ≤ u ∧ u ≤ 65535 := ⟨_, and_ffff a3, by omega, by omega⟩
  obtain ⟨u4, hu4, l4, g4⟩ : ∃ u, bits .and .i64 a4 7 = u ∧ 0 ≤ u ∧ u ≤ 7 := ⟨_, and_7 a4, by omega, by omega⟩
  go_enter Try.func12, Try.ntmps12
  go_wp2_with fail
  refine (head9_any _).mono ?_
  rintro e w1 ⟨rfl, hb1⟩
  go_wp2_with fail
  refine (conf2_any _ _ _).mono ?_
  rintro e w2 ⟨t, s, rfl, t1, t2, s1, s2, hb2⟩
  have hB2 := Lib.hid (below_step hb1 hb2)
  clear hb1 hb2
  have ht0 : (t == 0) = false := by simp; omega
  obtain ⟨N, hNe, hlay, hN1, hN2⟩ := lay44 t1 t2 s1 s2
  have hn0 : ¬ (N : Int) = 0 := by omega
  have hn0' : ((N : Int) == 0) = false := by simp; omega
  clear hNe
  have hA := AtC.made w2 t s 0 0
  have hB3 := below_new (Below.refl w2.heap.size w2) (.cells #[.int .i64 t, .int .i64 s, .int .i64 0, .int .i64 0] 46)
  have hs3 : w2.heap.size < (w2.alloc (.cells #[.int .i64 t, .int .i64 s, .int .i64 0, .int .i64 0] 46)).heap.size := by simp
  have HA := Lib.hid hA
  have HB := Lib.hid (below_step hB2.out hB3)
  have Hs := Lib.hid hs3
  have HBS : Hid (w.heap.size ≤ (w2.alloc (.cells #[.int .i64 t, .int .i64 s, .int .i64 0, .int .i64 0] 46)).heap.size) := HB.out.size
  clear hA hB3 hs3 hB2
  go_wp2_with fail
  have hw0 := Int.emod_nonneg u2 (show t ≠ 0 by omega)
  have hw1 := Int.emod_lt_of_pos u2 (show 0 < t by omega)
  generalize u2 % t = who at hw0 hw1 ⊢
  clear hu2 l2 g2
  generalize w2.alloc (.cells #[.int .i64 t, .int .i64 s, .int .i64 0, .int .i64 0] 46) = W at HA HB Hs HBS ⊢
  generalize w2.heap.size = cb at HA Hs ⊢
  clear w2 w1
  refine (call_any t s 0 0 N _ hlay).mono ?_
  rintro r w2 ⟨rfl, hb2⟩
  obtain ⟨q0, q1, q2, q3⟩ := HA.out.later hb2 Hs.out
  have HB2 := Lib.hid hb2
  clear hb2
  go_wp2_with fail
  have hs0 := Int.emod_nonneg u3 (show (N : Int) ≠ 0 by omega)
  have hs1 := Int.emod_lt_of_pos u3 (show 0 < (N : Int) by omega)
  generalize u3 % (N : Int) = slot at hs0 hs1 ⊢
  clear hu3 l3 g3 q0 q1 q2 q3
  refine (ccells_any t s 0 0 N _ hlay).mono ?_
  rintro r w3 ⟨rfl, hb3⟩
  have hb13 := below_step HB2.out hb3
  obtain ⟨M, hM⟩ : ∃ M : Nat, 2 * (N : Int) + 2 * t = (M : Int) := ⟨(2 * (N : Int) + 2 * t).toNat, by omega⟩
  have HM := Lib.hid hM
  rw [hM]
  clear hM hb3 HB2
  go_wp2_with fail
  refine (new_nat W.heap.size M M _ hb13.size (by have := HM.out; omega) (.inl rfl)).mono ?_
  rintro r w4 ⟨p, c, rfl, hM4, hb4, hp, hc⟩
  have HH := Lib.hid (Hold.cells hb13 hM4 hb4 hp hc)
  have HL0 : Hid ((List.replicate M (0 : Int)).length = M) := List.length_replicate
  clear hM4 hb4 hp hc hb13
  obtain ⟨j, hj⟩ : ∃ j : Nat, slot = (j : Int) := ⟨slot.toNat, by omega⟩
  obtain ⟨jv, hjv⟩ : ∃ jv : Nat, (N : Int) + slot = (jv : Int) := ⟨((N : Int) + slot).toNat, by omega⟩
  obtain ⟨hz, hhz⟩ : ∃ hz : Nat, 2 * (N : Int) + who = (hz : Int) := ⟨(2 * (N : Int) + who).toNat, by omega⟩
  have HJ := Lib.hid hj
  have HJV := Lib.hid hjv
  have HHZ := Lib.hid hhz
  clear hj hjv hhz
  have hp := fun W => pack_right 1 0 2 0 0 W (by decide)
  simp only [show (1 : Int) + 4 * 0 + 8 * 2 + 65536 * 0 + 1099511627776 * 0 = 17 from rfl] at hp
  have HP := Lib.hid hp
  clear hp
  have hsl : slot ≤ 16 := by omega
  have hu2 : IntKind.u64.wrap (slot + 1) = slot + 1 := by rw [IntKind.wrap_u64]; omega
  have hjz : j ≠ hz := by have := HJ.out; have := HHZ.out; omega
  have hjM : j < M := by have := HJ.out; have := HM.out; omega
  have hzM : hz < M := by have := HHZ.out; have := HM.out; omega
  go_wp2_with fail
  refine (HP.out _).mono ?_
  rintro r w5 ⟨rfl, hb5⟩
  have HH1 := Lib.hid (HH.out.later hb5)
  obtain ⟨q0, q1, q2, q3⟩ := HA.out.later HH1.out.below Hs.out
  clear hb5 HH
  go_wp2_with fail
  refine (word_at t s 0 0 slot j _ HJ.out).mono ?_
  rintro r w6 ⟨rfl, hb6⟩
  have HH2 := Lib.hid (HH1.out.later hb6)
  clear hb6 HH1 q0 q1 q2 q3
  go_wp2_with fail
  refine (store_in W.heap.size _ p c _ _ _ (-1) j _ 17 (Hold.has HH2.out 0 _ rfl) (getD_in (by rw [HL0.out]; exact hjM)) HH2.out.size (by decide) (by decide) (by decide)).mono ?_
  rintro r w7 ⟨rfl, v7, hT7⟩
  have HH3 := Lib.hid (HH2.out.mem 0 rfl hT7)
  clear hT7 HH2
  obtain ⟨C0, hC0, hCl, hCz⟩ : ∃ C0 : List Int, (List.replicate M (0 : Int)).set j 17 = C0 ∧ C0.length = M ∧ C0.getD hz 0 = 0 := ⟨_, rfl, by simp, by rw [getD_set_ne' _ hjz, List.getD_eq_getElem?_getD, List.getElem?_replicate, if_pos hzM]; rfl⟩
  obtain ⟨L0, hL0, hLl⟩ : ∃ L0 : List Ev, ([] ++ [⟨-1, 1, (j : Int), (List.replicate M (0 : Int)).getD j 0, 17, true⟩] : List Ev) = L0 ∧ L0.length ≤ 1 := ⟨_, rfl, by simp⟩
  have HH4 : Hid (Hold W w7 [tMem W.heap.size p c v7 C0 L0]) := by have := HH3.out; rw [← hL0, ← hC0]; exact this
  have HL := Lib.hid hLl
  have HC := Lib.hid hCl
  clear HH3 hC0 hL0 hLl hCl hCz HL0
  obtain ⟨q0, q1, q2, q3⟩ := HA.out.later HH4.out.below Hs.out
  go_wp2_with fail
  refine (tanew_any _ t s 0 0 who slot 17).mono ?_
  rintro r w8 ⟨b, rfl, hS8, hb8, hbb8⟩
  have HH5 : Hid (TaHold W w8 p c v7 C0 L0 b (ta0 t s 0 0 who slot 17) []) := TaHold.begun HH4.out hb8 hS8 hbb8
  clear hS8 hb8 hbb8 HH4 q0 q1 q2 q3
  have HOK : Hid ((ta0 t s 0 0 who slot 17).Ok N j jv hz C0) := ⟨hlay, by rw [HC.out]; exact HM.out.symm, hw0, hw1, hs0, hs1, HJ.out, HJV.out, HHZ.out, (by decide : (0 : Int) ≤ 17), (by decide : (17 : Int) ≤ _), fun _ => .inl ⟨rfl, rfl⟩⟩
  have HI : Hid (InvG hz 0 (ta0 t s 0 0 who slot 17) C0) := .inl ⟨rfl, .inl ⟨rfl, rfl, by omega⟩, fun h => absurd h (by omega)⟩
  have HSA : Hid ((ta0 t s 0 0 who slot 17).slot = slot) := rfl
  go_wp2_with fail
  generalize ta0 t s 0 0 who slot 17 = k0 at HH5 HOK HI HSA
  go_loopw [17] (fun i wr => ∃ (q : Nat) (v : Value) (C : List Int) (L : List Ev) (k : Ta), q ≤ 5 ∧ i = .int .i64 q ∧ Hid (TaHold W wr p c v C L b k []) ∧ Hid (k.Ok N j jv hz C) ∧ Hid (InvG hz q k C) ∧ Hid (C.length = M) ∧ Hid (L.length ≤ 1 + 2 * q) ∧ Hid (k.slot = slot)) (fun i _ => 9 - (intOf i).toNat)
  case atStart => exact ⟨0, v7, C0, L0, k0, by omega, rfl, HH5, HOK, HI, HC, HL, HSA⟩
  case round =>
    clear HH5 HOK HI HC HL HSA
    obtain ⟨q, v, C, L, k, hq, rfl, HH, HOK, HI, HC, HL, HSA⟩ := hrel
    by_cases hph : k.ph = 0
    · have hq4 : q ≤ 4 := by
        rcases Nat.eq_zero_or_pos q with h | h
        · omega
        · exact (HI.out.going hph h).1
      have hq9 : (q : Int) < 9 := by omega
      have HP0 := Lib.hid hph
      clear hph
      by_cases hat : (q : Int) = u4
      · have hat' : ((q : Int) == u4) = true := by simpa using hat
        clear hat
        go_wp2_with fail
        refine (taphase_at 0 HP0.out HH.out.obj).mono ?_
        rintro r wr2 ⟨rfl, rfl⟩
        obtain ⟨q0, q1, q2, q3⟩ := HA.out.later HH.out.below Hs.out
        go_wp2_with fail
        refine (word_at t s 0 0 slot j _ HJ.out).mono ?_
        rintro r w6 ⟨rfl, hb6⟩
        have HH2 := Lib.hid (HH.out.later hb6)
        clear hb6 HH q0 q1 q2 q3
        go_wp2_with fail
        refine (store_in W.heap.size _ p c _ _ _ (-1) j _ a5 HH2.out.mem (getD_in (by rw [HC.out]; exact hjM)) HH2.out.size (by have := HL.out; omega) x0 x1).mono ?_
        rintro r w7 ⟨rfl, v7, hT7⟩
        have HH3 := Lib.hid (HH2.out.store hT7)
        clear hT7 HH2
        have HI3 := Lib.hid (HI.out.other a5 hjz)
        have HC3 : Hid ((C.set j a5).length = M) := by rw [List.length_set]; exact HC.out
        have HOK3 : Hid (k.Ok N j jv hz (C.set j a5)) := ⟨HOK.out.lay, by rw [List.length_set]; exact HOK.out.len, HOK.out.w0, HOK.out.w1, HOK.out.s0, HOK.out.s1, HOK.out.hj, HOK.out.hjv, HOK.out.hhz, HOK.out.x0, HOK.out.x1, HOK.out.st⟩
        obtain ⟨L3, hL3, hL3l⟩ : ∃ L3 : List Ev, L ++ [⟨-1, 1, (j : Int), C.getD j 0, a5, true⟩] = L3 ∧ L3.length ≤ 2 + 2 * q := ⟨_, rfl, by rw [List.length_append]; have := HL.out; simp; omega⟩
        rw [hL3] at HH3
        have HL3 := Lib.hid hL3l
        clear HI HC HOK hL3 hL3l HL
        generalize C.set j a5 = C3 at HH3 HI3 HC3 HOK3
        have hst := HH3.out.call HOK3.out (by have := HL3.out; omega)
        have hI4 := HI3.out.step (jv := jv) HP0.out hjz (by rw [HC3.out]; exact hzM)
        have HOK4 := Lib.hid (HOK3.out.next (k.cells_len j hz C3))
        have HC4 : Hid ((k.cells j hz C3).length = M) := by rw [Ta.cells_len]; exact HC3.out
        have HL4 : Hid ((L3 ++ k.ev j jv hz C3).length ≤ 1 + 2 * (q + 1)) := by rw [List.length_append]; have := HL3.out; have := k.ev_le j jv hz C3; show _ ≤ _; omega
        have HSA4 : Hid ((k.go j jv C3).slot = slot) := by rw [(k.go_same j jv C3).slot]; exact HSA.out
        have HST := Lib.hid hst
        have HI4 := Lib.hid hI4
        clear hst hI4 HI3 HC3 HOK3 HL3
        generalize k.go j jv C3 = k4 at HST HI4 HOK4 HSA4
        generalize k.cells j hz C3 = C4 at HST HI4 HOK4 HC4
        generalize L3 ++ k.ev j jv hz C3 = L4 at HST HL4
        go_wp2_with fail
        refine HST.out.mono ?_
        rintro r w9 ⟨rfl, v9, hH9⟩
        have HH9 := Lib.hid hH9
        clear hH9 HST HH3
        by_cases hp4 : k4.ph = 0
        · have hz4 := (HI4.out.going hp4 (by omega)).2
          rw [HSA4.out] at hz4
          have HZ4 := Lib.hid hz4
          have HP4 := Lib.hid hp4
          have hq4' := (HI4.out.going hp4 (by omega)).1
          clear hz4 hp4
          go_wp2_with fail
          refine (taphase_at 0 HP4.out HH9.out.obj).mono ?_
          rintro r wr2 ⟨rfl, rfl⟩
          obtain ⟨q0, q1, q2, q3⟩ := HA.out.later HH9.out.below Hs.out
          go_wp2_with fail
          refine (hazard_at t s 0 0 N who hz _ hlay hw0 (by omega) HHZ.out).mono ?_
          rintro r w10 ⟨rfl, hb10⟩
          have HH10 := Lib.hid (HH9.out.later hb10)
          clear hb10 HH9 q0 q1 q2 q3
          go_wp2_with fail
          refine (peek_in W.heap.size _ p c _ _ _ hz (slot + 1) HH10.out.mem (by rw [getD_in (by rw [HC4.out]; exact hzM), HZ4.out])).mono ?_
          rintro r wr2 ⟨rfl, rfl⟩
          go_wp2_with fail
          go_roundw
          case rel => exact ⟨q + 1, v9, C4, L4, k4, by omega, by go_num, HH10, HOK4, HI4, HC4, HL4, HSA4⟩
          case measure => first | omega | (simp [intOf]; done) | (simp [intOf]; omega)
        · have hz4 := (HI4.out.done hp4).2.2
          obtain ⟨ph, hphe⟩ : ∃ x : Int, k4.ph = x := ⟨_, rfl⟩
          rw [hphe] at hp4
          have hph2 : (ph != 0) = true := by simpa using hp4
          have HZ4 := Lib.hid hz4
          have HP4 := Lib.hid hphe
          clear hz4 hp4 hphe
          go_wp2_with fail
          refine (taphase_at ph HP4.out HH9.out.obj).mono ?_
          rintro r wr2 ⟨rfl, rfl⟩
          obtain ⟨q0, q1, q2, q3⟩ := HA.out.later HH9.out.below Hs.out
          go_wp2_with fail
          refine (hazard_at t s 0 0 N who hz _ hlay hw0 (by omega) HHZ.out).mono ?_
          rintro r w10 ⟨rfl, hb10⟩
          have HH10 := Lib.hid (HH9.out.later hb10)
          clear hb10 HH9 q0 q1 q2 q3
          go_wp2_with fail
          refine (peek_in W.heap.size _ p c _ _ _ hz 0 HH10.out.mem (by rw [getD_in (by rw [HC4.out]; exact hzM), HZ4.out])).mono ?_
          rintro r wr2 ⟨rfl, rfl⟩
          go_wp2_with fail
          go_roundw
          case rel => exact ⟨q + 1, v9, C4, L4, k4, HI4.out.le, by go_num, HH10, HOK4, HI4, HC4, HL4, HSA4⟩
          case measure => first | omega | (simp [intOf]; done) | (simp [intOf]; omega)
      · have hat' : ((q : Int) == u4) = false := by simpa using hat
        clear hat
        go_wp2_with fail
        refine (taphase_at 0 HP0.out HH.out.obj).mono ?_
        rintro r wr2 ⟨rfl, rfl⟩
        have HH3 := HH
        have HI3 := HI
        have HC3 := HC
        have HOK3 := HOK
        have HL3 : Hid (L.length ≤ 2 + 2 * q) := by have := HL.out; show _ ≤ _; omega
        clear HH HI HC HOK HL
        obtain ⟨C3, rfl⟩ : ∃ C3, C3 = C := ⟨_, rfl⟩
        obtain ⟨L3, rfl⟩ : ∃ L3, L3 = L := ⟨_, rfl⟩
        have hst := HH3.out.call HOK3.out (by have := HL3.out; omega)
        have hI4 := HI3.out.step (jv := jv) HP0.out hjz (by rw [HC3.out]; exact hzM)
        have HOK4 := Lib.hid (HOK3.out.next (k.cells_len j hz C3))
        have HC4 : Hid ((k.cells j hz C3).length = M) := by rw [Ta.cells_len]; exact HC3.out
        have HL4 : Hid ((L3 ++ k.ev j jv hz C3).length ≤ 1 + 2 * (q + 1)) := by rw [List.length_append]; have := HL3.out; have := k.ev_le j jv hz C3; show _ ≤ _; omega
        have HSA4 : Hid ((k.go j jv C3).slot = slot) := by rw [(k.go_same j jv C3).slot]; exact HSA.out
        have HST := Lib.hid hst
        have HI4 := Lib.hid hI4
        clear hst hI4 HI3 HC3 HOK3 HL3
        generalize k.go j jv C3 = k4 at HST HI4 HOK4 HSA4
        generalize k.cells j hz C3 = C4 at HST HI4 HOK4 HC4
        generalize L3 ++ k.ev j jv hz C3 = L4 at HST HL4
        go_wp2_with fail
        refine HST.out.mono ?_
        rintro r w9 ⟨rfl, v9, hH9⟩
        have HH9 := Lib.hid hH9
        clear hH9 HST HH3
        by_cases hp4 : k4.ph = 0
        · have hz4 := (HI4.out.going hp4 (by omega)).2
          rw [HSA4.out] at hz4
          have HZ4 := Lib.hid hz4
          have HP4 := Lib.hid hp4
          have hq4' := (HI4.out.going hp4 (by omega)).1
          clear hz4 hp4
          go_wp2_with fail
          refine (taphase_at 0 HP4.out HH9.out.obj).mono ?_
          rintro r wr2 ⟨rfl, rfl⟩
          obtain ⟨q0, q1, q2, q3⟩ := HA.out.later HH9.out.below Hs.out
          go_wp2_with fail
          refine (hazard_at t s 0 0 N who hz _ hlay hw0 (by omega) HHZ.out).mono ?_
          rintro r w10 ⟨rfl, hb10⟩
          have HH10 := Lib.hid (HH9.out.later hb10)
          clear hb10 HH9 q0 q1 q2 q3
          go_wp2_with fail
          refine (peek_in W.heap.size _ p c _ _ _ hz (slot + 1) HH10.out.mem (by rw [getD_in (by rw [HC4.out]; exact hzM), HZ4.out])).mono ?_
          rintro r wr2 ⟨rfl, rfl⟩
          go_wp2_with fail
          go_roundw
          case rel => exact ⟨q + 1, v9, C4, L4, k4, by omega, by go_num, HH10, HOK4, HI4, HC4, HL4, HSA4⟩
          case measure => first | omega | (simp [intOf]; done) | (simp [intOf]; omega)
        · have hz4 := (HI4.out.done hp4).2.2
          obtain ⟨ph, hphe⟩ : ∃ x : Int, k4.ph = x := ⟨_, rfl⟩
          rw [hphe] at hp4
          have hph2 : (ph != 0) = true := by simpa using hp4
          have HZ4 := Lib.hid hz4
          have HP4 := Lib.hid hphe
          clear hz4 hp4 hphe
          go_wp2_with fail
          refine (taphase_at ph HP4.out HH9.out.obj).mono ?_
          rintro r wr2 ⟨rfl, rfl⟩
          obtain ⟨q0, q1, q2, q3⟩ := HA.out.later HH9.out.below Hs.out
          go_wp2_with fail
          refine (hazard_at t s 0 0 N who hz _ hlay hw0 (by omega) HHZ.out).mono ?_
          rintro r w10 ⟨rfl, hb10⟩
          have HH10 := Lib.hid (HH9.out.later hb10)
          clear hb10 HH9 q0 q1 q2 q3
          go_wp2_with fail
          refine (peek_in W.heap.size _ p c _ _ _ hz 0 HH10.out.mem (by rw [getD_in (by rw [HC4.out]; exact hzM), HZ4.out])).mono ?_
          rintro r wr2 ⟨rfl, rfl⟩
          go_wp2_with fail
          go_roundw
          case rel => exact ⟨q + 1, v9, C4, L4, k4, HI4.out.le, by go_num, HH10, HOK4, HI4, HC4, HL4, HSA4⟩
          case measure => first | omega | (simp [intOf]; done) | (simp [intOf]; omega)
    · have hd := HI.out.done hph
      have hq3 : 3 ≤ q := hd.1
      have hq5 : q ≤ 5 := hd.2.1
      obtain ⟨ph, hphe⟩ : ∃ x : Int, k.ph = x := ⟨_, rfl⟩
      rw [hphe] at hph
      have hph' : (ph == 0) = false := by simpa using hph
      have hph2 : (ph != 0) = true := by simpa using hph
      have HP0 := Lib.hid hphe
      clear hphe hd hph
      go_wp2_with fail
      refine (taphase_at ph HP0.out HH.out.obj).mono ?_
      rintro r wr2 ⟨rfl, rfl⟩
      have hqa : (3 : Int) ≤ (q : Int) := by omega
      have hqb : (q : Int) ≤ 5 := by omega
      go_wp2_with fail
      refine (taphase_at ph HP0.out HH.out.obj).mono ?_
      rintro r wr2 ⟨rfl, rfl⟩
      go_wp2_with fail
      go_ret
      exact ⟨rfl, below_step' HB.out HH.out.below HBS.out⟩

end Go.Proofs.Ythncappmjdgmnaa
