/-
  TakeLeaves answers true for all numbers, every word and either way, and leaves all memory that was there as it was. No condition.
-/
import Derived.Test.YthncappmjdgmnaaTakeEqs
namespace Go.Proofs.Ythncappmjdgmnaa
open Go.RowKit
set_option linter.unusedVariables false
attribute [local go_sem ↓] fld0

theorem xor8 (x : Int) (x0 : 0 ≤ x) (x1 : x ≤ 18446744073709551615) : ∃ y : Int, bits .xor .u64 x 8 = y ∧ 0 ≤ y ∧ y ≤ 18446744073709551615 ∧ x ≠ y := by
  obtain ⟨n, rfl⟩ := Int.eq_ofNat_of_zero_le x0
  have hn : n < 2 ^ 64 := by omega
  refine ⟨((n ^^^ 8 : Nat) : Int), u64_xor_nat n 8 (by omega) (by decide), by omega, ?_, fun h => ?_⟩
  · have := Nat.xor_lt_two_pow hn (show 8 < 2 ^ 64 by decide)
    omega
  · have h1 : n = n ^^^ 8 := by omega
    have h2 : n ^^^ n = n ^^^ (n ^^^ 8) := congrArg (n ^^^ ·) h1
    rw [← Nat.xor_assoc, Nat.xor_self, Nat.zero_xor] at h2
    cases h2

/-- Alone, with the word that is there: done behind five steps. -/
theorem alone_done {n : Int} {j jv hz : Nat} {k : Ta} {C : List Int} (hk : k.Ok n j jv hz C) (hp : k.ph = 0) (h0 : k.next = 0) (hlo : k.lost = false) (hjz : j ≠ hz) (hvz : jv ≠ hz) (hw : C.getD j 0 = k.word) :
    (runTa j jv hz 6 k C).1.ph = 1 ∧ (runTa j jv hz 6 k C).1.value = C.getD jv 0 ∧ (runTa j jv hz 6 k C).2 = ((C.set hz (k.slot + 1)).set j (tkW k.word)).set hz 0 := by
  have w1 : (C.set hz (k.slot + 1)).getD j 0 = k.word := by rw [getD_set_ne' _ (fun e => hjz e.symm)]; exact hw
  have v1 : (C.set hz (k.slot + 1)).getD jv 0 = C.getD jv 0 := getD_set_ne' _ (fun e => hvz e.symm)
  have r1 : runTa j jv hz 1 k C = ({ k with next := 1 }, C.set hz (k.slot + 1)) := by
    obtain ⟨e1, e2, _⟩ := go_0 (k := k) (j := j) (jv := jv) (hz := hz) (C := C) hp h0
    show (k.go j jv C, k.cells j hz C) = _
    rw [e1, e2]
  have r2 : runTa j jv hz 2 k C = ({ k with next := 2 }, C.set hz (k.slot + 1)) := by
    show ((runTa j jv hz 1 k C).1.go j jv (runTa j jv hz 1 k C).2, (runTa j jv hz 1 k C).1.cells j hz (runTa j jv hz 1 k C).2) = _
    rw [r1]
    obtain ⟨e1, e2, _⟩ := go_1y (k := { k with next := 1 }) (j := j) (jv := jv) (hz := hz) (C := C.set hz (k.slot + 1)) hp rfl w1
    rw [e1, e2]
  have r3 : runTa j jv hz 3 k C = ({ k with next := 3, value := C.getD jv 0 }, C.set hz (k.slot + 1)) := by
    show ((runTa j jv hz 2 k C).1.go j jv (runTa j jv hz 2 k C).2, (runTa j jv hz 2 k C).1.cells j hz (runTa j jv hz 2 k C).2) = _
    rw [r2]
    obtain ⟨e1, e2, _⟩ := go_2 (k := { k with next := 2 }) (j := j) (jv := jv) (hz := hz) (C := C.set hz (k.slot + 1)) hp rfl
    rw [e1, e2, v1]
  have r4 : runTa j jv hz 4 k C = ({ k with next := 4, value := C.getD jv 0 }, (C.set hz (k.slot + 1)).set j (tkW k.word)) := by
    show ((runTa j jv hz 3 k C).1.go j jv (runTa j jv hz 3 k C).2, (runTa j jv hz 3 k C).1.cells j hz (runTa j jv hz 3 k C).2) = _
    rw [r3]
    obtain ⟨e1, e2, _⟩ := go_3y (k := { k with next := 3, value := C.getD jv 0 }) (j := j) (jv := jv) (hz := hz) (C := C.set hz (k.slot + 1)) hp rfl w1
    rw [e1, e2]
  have r5 : runTa j jv hz 5 k C = ({ k with next := 5, ph := 1, value := C.getD jv 0 }, ((C.set hz (k.slot + 1)).set j (tkW k.word)).set hz 0) := by
    show ((runTa j jv hz 4 k C).1.go j jv (runTa j jv hz 4 k C).2, (runTa j jv hz 4 k C).1.cells j hz (runTa j jv hz 4 k C).2) = _
    rw [r4]
    obtain ⟨e1, e2, _⟩ := go_4y (k := { k with next := 4, value := C.getD jv 0 }) (j := j) (jv := jv) (hz := hz) (C := (C.set hz (k.slot + 1)).set j (tkW k.word)) hp rfl hlo
    rw [e1, e2]
  have r6 : runTa j jv hz 6 k C = ({ k with next := 5, ph := 1, value := C.getD jv 0 }, ((C.set hz (k.slot + 1)).set j (tkW k.word)).set hz 0) := by
    show ((runTa j jv hz 5 k C).1.go j jv (runTa j jv hz 5 k C).2, (runTa j jv hz 5 k C).1.cells j hz (runTa j jv hz 5 k C).2) = _
    rw [r5]
    obtain ⟨e1, e2, _⟩ := go_rest (k := { k with next := 5, ph := 1, value := C.getD jv 0 }) (j := j) (jv := jv) (hz := hz) (C := ((C.set hz (k.slot + 1)).set j (tkW k.word)).set hz 0) (by show (1 : Int) ≠ 0; decide)
    rw [e1, e2]
  rw [r6]
  exact ⟨rfl, rfl, rfl⟩
/-- Alone, with another word: lost behind three steps. -/
theorem alone_lost {n : Int} {j jv hz : Nat} {k : Ta} {C : List Int} (hk : k.Ok n j jv hz C) (hp : k.ph = 0) (h0 : k.next = 0) (hjz : j ≠ hz) (hw : C.getD j 0 ≠ k.word) :
    (runTa j jv hz 6 k C).1.ph = 2 ∧ (runTa j jv hz 6 k C).2 = (C.set hz (k.slot + 1)).set hz 0 := by
  have w1 : (C.set hz (k.slot + 1)).getD j 0 ≠ k.word := by rw [getD_set_ne' _ (fun e => hjz e.symm)]; exact hw
  have r1 : runTa j jv hz 1 k C = ({ k with next := 1 }, C.set hz (k.slot + 1)) := by
    obtain ⟨e1, e2, _⟩ := go_0 (k := k) (j := j) (jv := jv) (hz := hz) (C := C) hp h0
    show (k.go j jv C, k.cells j hz C) = _
    rw [e1, e2]
  have r2 : runTa j jv hz 2 k C = ({ k with next := 4, lost := true }, C.set hz (k.slot + 1)) := by
    show ((runTa j jv hz 1 k C).1.go j jv (runTa j jv hz 1 k C).2, (runTa j jv hz 1 k C).1.cells j hz (runTa j jv hz 1 k C).2) = _
    rw [r1]
    obtain ⟨e1, e2, _⟩ := go_1n (k := { k with next := 1 }) (j := j) (jv := jv) (hz := hz) (C := C.set hz (k.slot + 1)) hp rfl w1
    rw [e1, e2]
  have r3 : runTa j jv hz 3 k C = ({ k with next := 4, lost := true, ph := 2 }, (C.set hz (k.slot + 1)).set hz 0) := by
    show ((runTa j jv hz 2 k C).1.go j jv (runTa j jv hz 2 k C).2, (runTa j jv hz 2 k C).1.cells j hz (runTa j jv hz 2 k C).2) = _
    rw [r2]
    obtain ⟨e1, e2, _⟩ := go_4n (k := { k with next := 4, lost := true }) (j := j) (jv := jv) (hz := hz) (C := C.set hz (k.slot + 1)) hp rfl rfl
    rw [e1, e2]
  have rr : ∀ i, 3 ≤ i → runTa j jv hz i k C = ({ k with next := 4, lost := true, ph := 2 }, (C.set hz (k.slot + 1)).set hz 0) := by
    intro i hi
    induction i with
    | zero => omega
    | succ i ih =>
      rcases Nat.lt_or_ge i 3 with h | h
      · obtain rfl : i = 2 := by omega
        exact r3
      · show ((runTa j jv hz i k C).1.go j jv (runTa j jv hz i k C).2, (runTa j jv hz i k C).1.cells j hz (runTa j jv hz i k C).2) = _
        rw [ih h]
        obtain ⟨e1, e2, _⟩ := go_rest (k := { k with next := 4, lost := true, ph := 2 }) (j := j) (jv := jv) (hz := hz) (C := (C.set hz (k.slot + 1)).set hz 0) (by show (2 : Int) ≠ 0; decide)
        rw [e1, e2]
  rw [rr 6 (by omega)]
  exact ⟨rfl, rfl⟩

/-- The layout's box and a word's. -/
structure AtCW (cb fb : Nat) (t s a b c d e : Int) (w : World) : Prop where
  c0 : w.cell? ⟨cb, 0, none⟩ = some (i64 t)
  c1 : w.cell? ⟨cb, 1, none⟩ = some (i64 s)
  c2 : w.cell? ⟨cb, 2, none⟩ = some (i64 0)
  c3 : w.cell? ⟨cb, 3, none⟩ = some (i64 0)
  z0 : w.cell? ⟨fb, 0, none⟩ = some (i64 a)
  z1 : w.cell? ⟨fb, 1, none⟩ = some (i64 b)
  z2 : w.cell? ⟨fb, 2, none⟩ = some (i64 c)
  z3 : w.cell? ⟨fb, 3, none⟩ = some (i64 d)
  z4 : w.cell? ⟨fb, 4, none⟩ = some (i64 e)
theorem AtCW.mk' {W w : World} {cb fb : Nat} {t s a b c d e : Int} (hA : AtC W cb t s 0 0) (hs : cb < W.heap.size) (hO : IsObj W fb [i64 a, i64 b, i64 c, i64 d, i64 e]) (h : Below W.heap.size W w) : AtCW cb fb t s a b c d e w := by
  obtain ⟨q0, q1, q2, q3⟩ := hA.later h hs
  have o := hO.later h
  exact ⟨q0, q1, q2, q3, o.at' 0 _ rfl, o.at' 1 _ rfl, o.at' 2 _ rfl, o.at' 3 _ rfl, o.at' 4 _ rfl⟩

set_option maxRecDepth 100000 in
set_option maxHeartbeats 8000000 in
theorem walk_TakeLeaves (a0 : Int) (a1 : Int) (a2 : Int) (a3 : Int) (a4_0 : Int) (a4_1 : Int) (a4_2 : Int) (a4_3 : Int) (a4_4 : Int) (a5 : Bool) (a6 : Int) (w : World) (w0 : (Lit.int .i64 a0).wf = true) (w1 : (Lit.int .i64 a1).wf = true) (w2 : (Lit.int .i64 a2).wf = true) (w3 : (Lit.int .i64 a3).wf = true) (w4_0 : (Lit.int .i64 a4_0).wf = true) (w4_1 : (Lit.int .i64 a4_1).wf = true) (w4_2 : (Lit.int .i64 a4_2).wf = true) (w4_3 : (Lit.int .i64 a4_3).wf = true) (w4_4 : (Lit.int .i64 a4_4).wf = true) (w6 : (Lit.int .u64 a6).wf = true) :
    Calls Try.prog 11 #[.int .i64 a0, .int .i64 a1, .int .i64 a2, .int .i64 a3, .agg #[.int .i64 a4_0, .int .i64 a4_1, .int .i64 a4_2, .int .i64 a4_3, .int .i64 a4_4], .bool a5, .int .u64 a6] w fun e w' => e = .returned (.bool true) ∧ Below w.heap.size w w' := by
  obtain ⟨x0, x1⟩ := bounds_u64 w6
  clear w0 w1 w2 w3 w4_0 w4_1 w4_2 w4_3 w4_4 w6
  obtain ⟨u2, hu2, l2, g2⟩ : ∃ u, bits .and .i64 a2 65535 = u ∧ 0 ≤ u ∧ u ≤ 65535 := ⟨_, and_ffff a2, by omega, by omega⟩
  obtain ⟨u3, hu3, l3, g3⟩ : ∃ u, bits .and .i64 a3 65535 = u ∧ 0 ≤ u ∧ u ≤ 65535 := ⟨_, and_ffff a3, by omega, by omega⟩
  have hBx := below_new (Below.refl w.heap.size w) (.cells #[.int .i64 a4_0, .int .i64 a4_1, .int .i64 a4_2, .int .i64 a4_3, .int .i64 a4_4] 34)
  have hOx : IsObj (w.alloc (.cells #[.int .i64 a4_0, .int .i64 a4_1, .int .i64 a4_2, .int .i64 a4_3, .int .i64 a4_4] 34)) w.heap.size [i64 a4_0, i64 a4_1, i64 a4_2, i64 a4_3, i64 a4_4] := IsObj.made w [i64 a4_0, i64 a4_1, i64 a4_2, i64 a4_3, i64 a4_4] 34
  have HBx := Lib.hid hBx
  have HOx := Lib.hid hOx
  clear hBx hOx
  go_enter Try.func11, Try.ntmps11
  go_wp2_with fail
  generalize w.alloc (.cells #[.int .i64 a4_0, .int .i64 a4_1, .int .i64 a4_2, .int .i64 a4_3, .int .i64 a4_4] 34) = wb at HBx HOx ⊢
  obtain ⟨wsz, hwsz⟩ : ∃ n, w.heap.size = n := ⟨_, rfl⟩
  rw [hwsz] at HOx ⊢
  refine (head9_any _).mono ?_
  rintro e w1 ⟨rfl, hb1⟩
  have HOx1 := Lib.hid (HOx.out.later hb1)
  obtain ⟨z0, z1, z2, z3, z4⟩ : w1.cell? ⟨wsz, 0, none⟩ = some (i64 a4_0) ∧ w1.cell? ⟨wsz, 1, none⟩ = some (i64 a4_1) ∧ w1.cell? ⟨wsz, 2, none⟩ = some (i64 a4_2) ∧ w1.cell? ⟨wsz, 3, none⟩ = some (i64 a4_3) ∧ w1.cell? ⟨wsz, 4, none⟩ = some (i64 a4_4) := ⟨HOx1.out.at' 0 _ rfl, HOx1.out.at' 1 _ rfl, HOx1.out.at' 2 _ rfl, HOx1.out.at' 3 _ rfl, HOx1.out.at' 4 _ rfl⟩
  go_wp2_with fail
  refine (wright_any a4_0 a4_1 a4_2 a4_3 a4_4 _).mono ?_
  rintro r w2 ⟨rfl, hb2⟩
  clear z0 z1 z2 z3 z4
  have HB2' := Lib.hid (below_step (below_step HBx.out hb1) hb2)
  have HO1 := Lib.hid (HOx1.out.later hb2)
  clear hb1 hb2 HOx1 HOx HBx
  by_cases hr : rightW a4_0 a4_1 a4_2 a4_3 a4_4 = true
  · have hwr := of_decide_eq_true hr
    obtain ⟨pk, hpk⟩ : ∃ pk : Int, a4_0 + 4 * a4_1 + 8 * a4_2 + 65536 * a4_3 + 1099511627776 * a4_4 = pk := ⟨_, rfl⟩
    have pk0 : 0 ≤ pk := by omega
    have pk1 : pk ≤ 18446744073709551615 := by omega
    have htk : 2 + 4 * a4_1 + 8 * a4_2 + 65536 * a4_3 + 1099511627776 * a4_4 = tkW pk := by unfold tkW; omega
    have hpa := fun W => pack_right a4_0 a4_1 a4_2 a4_3 a4_4 W hwr
    have hta := fun W => pack_right 2 a4_1 a4_2 a4_3 a4_4 W (by omega)
    simp only [hpk] at hpa
    simp only [htk] at hta
    have HPA := Lib.hid hpa
    have HTA := Lib.hid hta
    rw [hr]
    clear hpa hta hpk htk hwr hr
    go_wp2_with fail
    refine (conf2_any _ _ _).mono ?_
    rintro e w3 ⟨t, s, rfl, t1, t2, s1, s2, hb3⟩
    have hB2 := Lib.hid (below_step HB2'.out hb3)
    have HO2 := Lib.hid (HO1.out.later hb3)
    clear hb3 HB2' HO1 w2 w1
    obtain ⟨w1, rfl⟩ : ∃ w1 : World, w1 = w3 := ⟨_, rfl⟩
    obtain ⟨w2, rfl⟩ : ∃ w2 : World, w2 = w1 := ⟨_, rfl⟩
    have ht0 : (t == 0) = false := by simp; omega
    obtain ⟨N, hNe, hlay, hN1, hN2⟩ := lay44 t1 t2 s1 s2
    have hn0 : ¬ (N : Int) = 0 := by omega
    have hn0' : ((N : Int) == 0) = false := by simp; omega
    clear hNe
    have hA := AtC.made w2 t s 0 0
    have hB3 := below_new (Below.refl w2.heap.size w2) (.cells #[.int .i64 t, .int .i64 s, .int .i64 0, .int .i64 0] 46)
    have hs3 : w2.heap.size < (w2.alloc (.cells #[.int .i64 t, .int .i64 s, .int .i64 0, .int .i64 0] 46)).heap.size := by simp
    have HA := Lib.hid hA
    have HB := Lib.hid (below_step hB2.out hB3)
    have Hs := Lib.hid hs3
    have HBS : Hid (w.heap.size ≤ (w2.alloc (.cells #[.int .i64 t, .int .i64 s, .int .i64 0, .int .i64 0] 46)).heap.size) := HB.out.size
    have HOW : Hid (IsObj (w2.alloc (.cells #[.int .i64 t, .int .i64 s, .int .i64 0, .int .i64 0] 46)) wsz [i64 a4_0, i64 a4_1, i64 a4_2, i64 a4_3, i64 a4_4]) := HO2.out.later (below_new (Below.refl _ _) _)
    clear hA hB3 hs3 hB2 HO2
    go_wp2_with fail
    have hw0 := Int.emod_nonneg u2 (show t ≠ 0 by omega)
    have hw1 := Int.emod_lt_of_pos u2 (show 0 < t by omega)
    generalize u2 % t = who at hw0 hw1 ⊢
    clear hu2 l2 g2
    generalize w2.alloc (.cells #[.int .i64 t, .int .i64 s, .int .i64 0, .int .i64 0] 46) = W at HA HB Hs HBS HOW ⊢
    generalize w2.heap.size = cb at HA Hs ⊢
    clear w2
    refine (call_any t s 0 0 N _ hlay).mono ?_
    rintro r w2 ⟨rfl, hb2⟩
    obtain ⟨q0, q1, q2, q3⟩ := HA.out.later hb2 Hs.out
    have HB2 := Lib.hid hb2
    clear hb2
    go_wp2_with fail
    have hs0 := Int.emod_nonneg u3 (show (N : Int) ≠ 0 by omega)
    have hs1 := Int.emod_lt_of_pos u3 (show 0 < (N : Int) by omega)
    generalize u3 % (N : Int) = slot at hs0 hs1 ⊢
    clear hu3 l3 g3 q0 q1 q2 q3
    refine (ccells_any t s 0 0 N _ hlay).mono ?_
    rintro r w3 ⟨rfl, hb3⟩
    have hb13 := below_step HB2.out hb3
    obtain ⟨M, hM⟩ : ∃ M : Nat, 2 * (N : Int) + 2 * t = (M : Int) := ⟨(2 * (N : Int) + 2 * t).toNat, by omega⟩
    have HM := Lib.hid hM
    rw [hM]
    clear hM hb3 HB2
    go_wp2_with fail
    refine (new_nat W.heap.size M M _ hb13.size (by have := HM.out; omega) (.inl rfl)).mono ?_
    rintro r w4 ⟨p, c, rfl, hM4, hb4, hp, hc⟩
    have HH := Lib.hid (Hold.cells hb13 hM4 hb4 hp hc)
    have HL0 : Hid ((List.replicate M (0 : Int)).length = M) := List.length_replicate
    clear hM4 hb4 hp hc hb13
    obtain ⟨j, hj⟩ : ∃ j : Nat, slot = (j : Int) := ⟨slot.toNat, by omega⟩
    obtain ⟨jv, hjv⟩ : ∃ jv : Nat, (N : Int) + slot = (jv : Int) := ⟨((N : Int) + slot).toNat, by omega⟩
    obtain ⟨hz, hhz⟩ : ∃ hz : Nat, 2 * (N : Int) + who = (hz : Int) := ⟨(2 * (N : Int) + who).toNat, by omega⟩
    have HJ := Lib.hid hj
    have HJV := Lib.hid hjv
    have HHZ := Lib.hid hhz
    clear hj hjv hhz
    have hjz : j ≠ hz := by have := HJ.out; have := HHZ.out; omega
    have hvz : jv ≠ hz := by have := HJV.out; have := HHZ.out; omega
    have hjM : j < M := by have := HJ.out; have := HM.out; omega
    have hvM : jv < M := by have := HJV.out; have := HM.out; omega
    have hzM : hz < M := by have := HHZ.out; have := HM.out; omega
    have hNM : 2 * N ≤ M := by have := HM.out; omega
    obtain ⟨F, hF⟩ : ∃ F : Nat → Int, ∀ i : Nat, IntKind.u64.wrap (a6 + (i : Int)) = F i := ⟨_, fun _ => rfl⟩
    have hFb : ∀ i : Nat, 0 ≤ F i ∧ F i ≤ 18446744073709551615 := fun i => by rw [← hF i, IntKind.wrap_u64]; omega
    have HF := Lib.hid hF
    have HFB := Lib.hid hFb
    have HI0 : Hid (∀ i, i < 0 → (List.replicate M (0 : Int)).getD i 0 = pk ∧ (List.replicate M (0 : Int)).getD (N + i) 0 = F i) := fun i hi => by omega
    clear hF hFb
    go_wp2_with fail
    go_loopw [17] (fun i wr => ∃ (e : Nat) (v : Value) (C : List Int) (L : List Ev), e ≤ N ∧ i = .int .i64 e ∧ Hid (Hold W wr [tMem W.heap.size p c v C L]) ∧ Hid (C.length = M) ∧ Hid (∀ i, i < e → C.getD i 0 = pk ∧ C.getD (N + i) 0 = F i) ∧ Hid (L.length ≤ 2 * e)) (fun i _ => N - (intOf i).toNat)
    case atStart => exact ⟨0, _, _, [], by omega, rfl, HH, HL0, HI0, Nat.zero_le _⟩
    case round =>
      clear HH HL0 HI0
      obtain ⟨e, v, C, L, he, rfl, HH, HC, HI, HL⟩ := hrel
      obtain ⟨q0, q1, q2, q3⟩ := HA.out.later HH.out.below Hs.out
      go_wp2_with fail
      refine (call_any t s 0 0 N _ hlay).mono ?_
      rintro r w5 ⟨rfl, hb5⟩
      have HH1 := Lib.hid (HH.out.later hb5)
      clear hb5 HH q0 q1 q2 q3
      rcases Nat.lt_or_ge e N with heN | heN
      · have heN' : (e : Int) < (N : Int) := by omega
        have hS : AtCW cb wsz t s a4_0 a4_1 a4_2 a4_3 a4_4 w5.drew := AtCW.mk' HA.out Hs.out HOW.out HH1.out.drew.below
        have hue : IntKind.u64.wrap (e : Int) = (e : Int) := by rw [IntKind.wrap_u64]; omega
        go_wp2_with fail
        refine wp_region_seqS ((fun w' => AtCW cb wsz t s a4_0 a4_1 a4_2 a4_3 a4_4 w')) ((0, true) :: (1, true) :: (2, true) :: (4, true) :: (3, false) :: (5, false) :: (6, false) :: []) (by kernel_rfl) (by kernel_rfl) (by kernel_rfl) (by decide) (fun _ _ _ _ _ h => h) (hS) ?_
        repeat (first | (refine seq_take (v := ?_) rfl ?_ ?_ ?_; rotate_left 1; rfl; (focus (intro wS hSw; obtain ⟨c0, c1, c2, c3, z0, z1, z2, z3, z4⟩ := hSw; go_simp; first | done | with_reducible rfl)); (try simp only [Act.put, List.setIfInBounds_toArray, List.set_cons_zero, List.set_cons_succ])) | (refine seq_skip rfl ?_ ?_; rfl; (try simp only [Act.put, List.setIfInBounds_toArray, List.set_cons_zero, List.set_cons_succ])))
        refine seq_run rfl (fun K hK => ?_)
        go_simp
        go_at_call 32
        refine (word_at t s 0 0 e e _ rfl).mono ?_
        rintro r w6 ⟨rfl, hb6⟩
        (try go_wp2_with fail)
        have HH2 := Lib.hid (HH1.out.drew.later hb6)
        clear hb6 HH1 hS
        refine hK.out _ _ (AtCW.mk' HA.out Hs.out HOW.out HH2.out.below) (fun _ => ?_)
        (try simp only [Act.put, List.setIfInBounds_toArray, List.set_cons_zero, List.set_cons_succ])
        clear hK K
        repeat (first | (refine seq_take (v := ?_) rfl ?_ ?_ ?_; rotate_left 1; rfl; (focus (intro wS hSw; obtain ⟨c0, c1, c2, c3, z0, z1, z2, z3, z4⟩ := hSw; go_simp; first | done | with_reducible rfl)); (try simp only [Act.put, List.setIfInBounds_toArray, List.set_cons_zero, List.set_cons_succ])) | (refine seq_skip rfl ?_ ?_; rfl; (try simp only [Act.put, List.setIfInBounds_toArray, List.set_cons_zero, List.set_cons_succ])))
        refine seq_run rfl (fun K hK => ?_)
        go_simp
        go_at_call 22
        refine (HPA.out _).mono ?_
        rintro r w7 ⟨rfl, hb7⟩
        (try go_wp2_with fail)
        have HH3 := Lib.hid (HH2.out.later hb7)
        clear hb7 HH2
        refine hK.out _ _ (AtCW.mk' HA.out Hs.out HOW.out HH3.out.below) (fun _ => ?_)
        (try simp only [Act.put, List.setIfInBounds_toArray, List.set_cons_zero, List.set_cons_succ])
        clear hK K
        repeat (first | (refine seq_take (v := ?_) rfl ?_ ?_ ?_; rotate_left 1; rfl; (focus (intro wS hSw; obtain ⟨c0, c1, c2, c3, z0, z1, z2, z3, z4⟩ := hSw; go_simp; first | done | with_reducible rfl)); (try simp only [Act.put, List.setIfInBounds_toArray, List.set_cons_zero, List.set_cons_succ])) | (refine seq_skip rfl ?_ ?_; rfl; (try simp only [Act.put, List.setIfInBounds_toArray, List.set_cons_zero, List.set_cons_succ])))
        refine seq_run rfl (fun K hK => ?_)
        go_simp
        go_at_call 31
        refine (store_in W.heap.size _ p c _ _ _ (-1) e _ pk (Hold.has HH3.out 0 _ rfl) (getD_in (by rw [HC.out]; omega)) HH3.out.size (by have := HL.out; omega) pk0 pk1).mono ?_
        rintro r w8 ⟨rfl, v8, hT8⟩
        (try go_wp2_with fail)
        have HH4 := Lib.hid (HH3.out.mem 0 rfl hT8)
        clear hT8 HH3
        refine hK.out _ _ (AtCW.mk' HA.out Hs.out HOW.out HH4.out.below) (fun _ => ?_)
        (try simp only [Act.put, List.setIfInBounds_toArray, List.set_cons_zero, List.set_cons_succ])
        clear hK K
        repeat (first | (refine seq_take (v := ?_) rfl ?_ ?_ ?_; rotate_left 1; rfl; (focus (intro wS hSw; obtain ⟨c0, c1, c2, c3, z0, z1, z2, z3, z4⟩ := hSw; go_simp; first | done | with_reducible rfl)); (try simp only [Act.put, List.setIfInBounds_toArray, List.set_cons_zero, List.set_cons_succ])) | (refine seq_skip rfl ?_ ?_; rfl; (try simp only [Act.put, List.setIfInBounds_toArray, List.set_cons_zero, List.set_cons_succ])))
        refine seq_done ?_
        obtain ⟨q0, q1, q2, q3⟩ := HA.out.later HH4.out.below Hs.out
        go_wp2_with fail
        refine (value_at t s 0 0 N e (N + e) _ hlay (by omega) (by omega) (by omega)).mono ?_
        rintro r w9 ⟨rfl, hb9⟩
        have HH5 := Lib.hid (HH4.out.later hb9)
        clear hb9 HH4 q0 q1 q2 q3
        have hFe := HF.out e
        go_wp2_with fail
        clear hFe
        refine (store_in W.heap.size _ p c _ _ _ (-1) (N + e) _ (F e) (Hold.has HH5.out 0 _ rfl) (getD_in (by rw [List.length_set, HC.out]; omega)) HH5.out.size (by rw [List.length_append]; have := HL.out; simp; omega) (HFB.out e).1 (HFB.out e).2).mono ?_
        rintro r w10 ⟨rfl, v10, hT10⟩
        have HH6 := Lib.hid (HH5.out.mem 0 rfl hT10)
        clear hT10 HH5
        go_wp2_with fail
        go_roundw
        case rel => exact ⟨e + 1, v10, _, _, by omega, by go_num, HH6, by rw [List.length_set, List.length_set]; exact HC.out, fun i hi => by
          rcases (by omega : i = e ∨ i < e) with rfl | h
          · exact ⟨by rw [getD_set_ne' _ (by omega), getD_set_eq' _ (by rw [HC.out]; omega)], getD_set_eq' _ (by rw [List.length_set, HC.out]; omega)⟩
          · rw [getD_set_ne' _ (by omega), getD_set_ne' _ (by omega), getD_set_ne' _ (by omega), getD_set_ne' _ (by omega)]
            exact HI.out i h, by rw [List.length_append, List.length_append]; have := HL.out; show _ ≤ _; simp only [List.length_cons, List.length_nil]; omega⟩
        case measure => first | omega | (simp [intOf]; done) | (simp [intOf]; omega)
      · have heN' : ¬ (e : Int) < (N : Int) := by omega
        replace HI : Hid (∀ i, i < N → C.getD i 0 = pk ∧ C.getD (N + i) 0 = F i) := fun i hi => HI.out i (by omega)
        replace HL : Hid (L.length ≤ 100) := by have := HL.out; show _ ≤ _; omega
        obtain ⟨q0, q1, q2, q3, z0, z1, z2, z3, z4⟩ := AtCW.mk' HA.out Hs.out HOW.out HH1.out.below
        go_wp2_with fail
        refine (HPA.out _).mono ?_
        rintro r w6 ⟨rfl, hb6⟩
        have HH2 := Lib.hid (HH1.out.later hb6)
        clear hb6 HH1 q0 q1 q2 q3 z0 z1 z2 z3 z4
        cases a5 with
        | false =>
          obtain ⟨q0, q1, q2, q3⟩ := HA.out.later HH2.out.below Hs.out
          skip
          go_wp2_with fail
          refine (tanew_any _ t s 0 0 who slot pk).mono ?_
          rintro r w7 ⟨b, rfl, hS7, hb7, hbb7⟩
          have HT0 : Hid (TaHold W w7 p c v C L b (ta0 t s 0 0 who slot pk) []) := TaHold.begun HH2.out hb7 hS7 hbb7
          clear hS7 hb7 hbb7 HH2 q0 q1 q2 q3
          have hok : (ta0 t s 0 0 who slot pk).Ok N j jv hz C := ⟨hlay, by rw [HC.out]; exact HM.out.symm, hw0, hw1, hs0, hs1, HJ.out, HJV.out, HHZ.out, pk0, pk1, fun _ => .inl ⟨rfl, rfl⟩⟩
          have HOK := Lib.hid hok
          have HD : Hid ((runTa j jv hz 6 (ta0 t s 0 0 who slot pk) C).1.ph = 1 ∧ (runTa j jv hz 6 (ta0 t s 0 0 who slot pk) C).1.value = F j ∧ (runTa j jv hz 6 (ta0 t s 0 0 who slot pk) C).2 = (((C.set hz (slot + 1)).set j (tkW pk)).set hz 0)) := by
            have h := alone_done hok rfl rfl rfl hjz hvz ((HI.out j (by have := HJ.out; omega)).1)
            refine ⟨h.1, h.2.1.trans ?_, h.2.2⟩
            rw [show jv = N + j by have := HJ.out; have := HJV.out; omega]
            exact (HI.out j (by have := HJ.out; omega)).2
          clear hok
          go_wp2_with fail
          generalize (ta0 t s 0 0 who slot pk) = k0 at HT0 HOK HD
          go_loopw [20] (fun i wr => ∃ (q : Nat) (v : Value) (L : List Ev), q ≤ 6 ∧ i = .int .i64 q ∧ Hid (TaHold W wr p c v (runTa j jv hz q k0 C).2 L b (runTa j jv hz q k0 C).1 []) ∧ Hid (L.length ≤ 100 + q)) (fun i _ => 6 - (intOf i).toNat)
          case atStart => exact ⟨0, v, L, by omega, rfl, HT0, by have := HL.out; show _ ≤ _; omega⟩
          case round =>
            clear HT0 HL
            obtain ⟨q, v, L, hq, rfl, HH, HL⟩ := hrel
            rcases Nat.lt_or_ge q 6 with hq6 | hq6
            · have hq6' : (q : Int) < 6 := by omega
              have hst := HH.out.run HOK.out (by have := HL.out; omega)
              have HST := Lib.hid hst
              clear hst
              go_wp2_with fail
              refine HST.out.mono ?_
              rintro r w9 ⟨rfl, v9, L9, hH9, hL9⟩
              have HH9 := Lib.hid hH9
              clear hH9
              go_wp2_with fail
              go_roundw
              case rel => exact ⟨q + 1, v9, L9, by omega, by go_num, HH9, by have := HL.out; show _ ≤ _; omega⟩
              case measure => first | omega | (simp [intOf]; done) | (simp [intOf]; omega)
            · obtain rfl : q = 6 := by omega
              rw [show ((6 : Nat) : Int) = 6 from rfl]
              obtain ⟨D1, D2, D3⟩ := HD.out
              have HT6 := HH
              obtain ⟨k6, hk6⟩ : ∃ k6, (runTa j jv hz 6 k0 C).1 = k6 := ⟨_, rfl⟩
              rw [hk6] at HT6 D1
              (try rw [hk6] at D2)
              rw [D3] at HT6
              have HC6 : Hid ((((C.set hz (slot + 1)).set j (tkW pk)).set hz 0).length = M) := by simp only [List.length_set]; exact HC.out
              have hge : ∀ i, i < N → i ≠ hz ∧ N + i ≠ hz ∧ N + i ≠ j := fun i hi => by have := HHZ.out; have := HJ.out; exact ⟨by omega, by omega, by omega⟩
              have HW6 : ∀ i, i < N → (((C.set hz (slot + 1)).set j (tkW pk)).set hz 0).getD i 0 = if i = j then tkW pk else pk := fun i hi => by
                obtain ⟨g1, g2, g3⟩ := hge i hi
                rw [getD_set_ne' _ (fun e => g1 e.symm)]
                by_cases hij : i = j
                · rw [if_pos hij, hij]
                  exact getD_set_eq' _ (by rw [List.length_set, HC.out]; exact hjM)
                · rw [if_neg hij, getD_set_ne' _ (fun e => hij e.symm), getD_set_ne' _ (fun e => g1 e.symm)]
                  exact (HI.out i hi).1
              have HV6 : Hid (∀ i, i < N → (((C.set hz (slot + 1)).set j (tkW pk)).set hz 0).getD (N + i) 0 = F i) := fun i hi => by
                obtain ⟨g1, g2, g3⟩ := hge i hi
                rw [getD_set_ne' _ (fun e => g2 e.symm), getD_set_ne' _ (fun e => g3 e.symm), getD_set_ne' _ (fun e => g2 e.symm)]
                exact (HI.out i hi).2
              have HP6 := Lib.hid D1
              have HQ6 := Lib.hid D2
              clear D1 D2 D3 HH hk6 hge hq6 HD HOK HC HI
              generalize (((C.set hz (slot + 1)).set j (tkW pk)).set hz 0) = C6 at HT6 HC6 HW6 HV6
              have HWW := Lib.hid HW6
              clear HW6
              go_wp2_with fail
              obtain ⟨wo, rfl⟩ : ∃ wo : World, wo = wr := ⟨_, rfl⟩
              go_loopw [21] (fun i wr => ∃ (e : Nat), e ≤ N ∧ i = .int .i64 e ∧ Hid (TaHold W wr p c v C6 L b k6 [])) (fun i _ => N - (intOf i).toNat)
              case atStart => exact ⟨0, by omega, rfl, HT6⟩
              case round =>
                clear HT6
                obtain ⟨e, he, rfl, HH⟩ := hrel
                obtain ⟨q0, q1, q2, q3⟩ := HA.out.later HH.out.below Hs.out
                go_wp2_with fail
                refine (call_any t s 0 0 N _ hlay).mono ?_
                rintro r w5 ⟨rfl, hb5⟩
                have HH1 := Lib.hid (HH.out.later hb5)
                clear hb5 HH q0 q1 q2 q3
                rcases Nat.lt_or_ge e N with heN | heN
                · have heN' : (e : Int) < (N : Int) := by omega
                  have hue : IntKind.u64.wrap (e : Int) = (e : Int) := by rw [IntKind.wrap_u64]; omega
                  have hFe := HF.out e
                  have HW6 := HWW.out e heN
                  obtain ⟨q0, q1, q2, q3, z0, z1, z2, z3, z4⟩ := AtCW.mk' HA.out Hs.out HOW.out HH1.out.below
                  go_wp2_with fail
                  refine (HPA.out _).mono ?_
                  rintro r w6 ⟨rfl, hb6⟩
                  have HH2 := Lib.hid (HH1.out.later hb6)
                  clear hb6 HH1 q0 q1 q2 q3 z0 z1 z2 z3 z4
                  by_cases hes : e = j
                  · have hes' : ((e : Int) == slot) = true := by rw [HJ.out, hes]; simp
                    have HEJ := Lib.hid hes
                    clear hes
                    obtain ⟨q0, q1, q2, q3, z0, z1, z2, z3, z4⟩ := AtCW.mk' HA.out Hs.out HOW.out HH2.out.below
                    go_wp2_with fail
                    refine (taken_any a4_0 a4_1 a4_2 a4_3 a4_4 _).mono ?_
                    rintro r wx ⟨rfl, hbx⟩
                    have HH3 := Lib.hid (HH2.out.later hbx)
                    clear hbx HH2 q0 q1 q2 q3 z0 z1 z2 z3 z4
                    go_wp2_with fail
                    refine (HTA.out _).mono ?_
                    rintro r wy ⟨rfl, hby⟩
                    have HHc := Lib.hid (HH3.out.later hby)
                    clear hby HH3
                    obtain ⟨q0, q1, q2, q3, z0, z1, z2, z3, z4⟩ := AtCW.mk' HA.out Hs.out HOW.out HHc.out.below
                    clear z0 z1 z2 z3 z4
                    go_wp2_with fail
                    refine (word_at t s 0 0 e e _ rfl).mono ?_
                    rintro r wa ⟨rfl, hba⟩
                    have HHd := Lib.hid (HHc.out.later hba)
                    clear hba HHc q0 q1 q2 q3
                    go_wp2_with fail
                    refine (peek_in W.heap.size _ p c _ _ _ e (tkW pk) HHd.out.mem (by rw [getD_in (by rw [HC6.out]; omega), HW6]; rw [if_pos HEJ.out])).mono ?_
                    rintro r wr2 ⟨rfl, rfl⟩
                    obtain ⟨q0, q1, q2, q3⟩ := HA.out.later HHd.out.below Hs.out
                    go_wp2_with fail
                    refine (value_at t s 0 0 N e (N + e) _ hlay (by omega) (by omega) (by omega)).mono ?_
                    rintro r wb ⟨rfl, hbb⟩
                    have HHe := Lib.hid (HHd.out.later hbb)
                    clear hbb HHd q0 q1 q2 q3
                    go_wp2_with fail
                    refine (peek_in W.heap.size _ p c _ _ _ (N + e) (F e) HHe.out.mem (by rw [getD_in (by rw [HC6.out]; omega), HV6.out e (by omega)])).mono ?_
                    rintro r wr2 ⟨rfl, rfl⟩
                    go_wp2_with fail
                    go_roundw
                    case rel => exact ⟨e + 1, by omega, by go_num, HHe⟩
                    case measure => first | omega | (simp [intOf]; done) | (simp [intOf]; omega)
                  · have hes' : ((e : Int) == slot) = false := by rw [HJ.out]; simp; omega
                    have HEJ := Lib.hid hes
                    clear hes
                    have HHc := HH2
                    clear HH2
                    obtain ⟨q0, q1, q2, q3, z0, z1, z2, z3, z4⟩ := AtCW.mk' HA.out Hs.out HOW.out HHc.out.below
                    clear z0 z1 z2 z3 z4
                    go_wp2_with fail
                    refine (word_at t s 0 0 e e _ rfl).mono ?_
                    rintro r wa ⟨rfl, hba⟩
                    have HHd := Lib.hid (HHc.out.later hba)
                    clear hba HHc q0 q1 q2 q3
                    go_wp2_with fail
                    refine (peek_in W.heap.size _ p c _ _ _ e pk HHd.out.mem (by rw [getD_in (by rw [HC6.out]; omega), HW6]; rw [if_neg HEJ.out])).mono ?_
                    rintro r wr2 ⟨rfl, rfl⟩
                    obtain ⟨q0, q1, q2, q3⟩ := HA.out.later HHd.out.below Hs.out
                    go_wp2_with fail
                    refine (value_at t s 0 0 N e (N + e) _ hlay (by omega) (by omega) (by omega)).mono ?_
                    rintro r wb ⟨rfl, hbb⟩
                    have HHe := Lib.hid (HHd.out.later hbb)
                    clear hbb HHd q0 q1 q2 q3
                    go_wp2_with fail
                    refine (peek_in W.heap.size _ p c _ _ _ (N + e) (F e) HHe.out.mem (by rw [getD_in (by rw [HC6.out]; omega), HV6.out e (by omega)])).mono ?_
                    rintro r wr2 ⟨rfl, rfl⟩
                    go_wp2_with fail
                    go_roundw
                    case rel => exact ⟨e + 1, by omega, by go_num, HHe⟩
                    case measure => first | omega | (simp [intOf]; done) | (simp [intOf]; omega)
                · have heN' : ¬ (e : Int) < (N : Int) := by omega
                  have hus : IntKind.u64.wrap slot = slot := by rw [IntKind.wrap_u64]; omega
                  have hFs : IntKind.u64.wrap (a6 + slot) = F j := by rw [HJ.out]; exact HF.out j
                  go_wp2_with fail
                  refine (taphase_at 1 HP6.out HH1.out.obj).mono ?_
                  rintro r wr2 ⟨rfl, rfl⟩
                  go_wp2_with fail
                  refine (tavalue_at (F j) (by rw [if_pos HP6.out]; exact HQ6.out) HH1.out.obj).mono ?_
                  rintro r wr2 ⟨rfl, rfl⟩
                  go_wp2_with fail
                  go_ret
                  exact ⟨rfl, below_step' HB.out HH1.out.below HBS.out⟩
        | true =>
          obtain ⟨y8, hy8, hy0, hy1, hne⟩ := xor8 pk pk0 pk1
          have HY8 := Lib.hid hy8
          have HY0 := Lib.hid hy0
          have HY1 := Lib.hid hy1
          have HNE := Lib.hid hne
          clear hy8 hy0 hy1 hne
          obtain ⟨q0, q1, q2, q3⟩ := HA.out.later HH2.out.below Hs.out
          have hyx := HY8.out
          go_wp2_with fail
          refine (tanew_any _ t s 0 0 who slot y8).mono ?_
          rintro r w7 ⟨b, rfl, hS7, hb7, hbb7⟩
          have HT0 : Hid (TaHold W w7 p c v C L b (ta0 t s 0 0 who slot y8) []) := TaHold.begun HH2.out hb7 hS7 hbb7
          clear hS7 hb7 hbb7 HH2 q0 q1 q2 q3
          have hok : (ta0 t s 0 0 who slot y8).Ok N j jv hz C := ⟨hlay, by rw [HC.out]; exact HM.out.symm, hw0, hw1, hs0, hs1, HJ.out, HJV.out, HHZ.out, HY0.out, HY1.out, fun _ => .inl ⟨rfl, rfl⟩⟩
          have HOK := Lib.hid hok
          have HD : Hid ((runTa j jv hz 6 (ta0 t s 0 0 who slot y8) C).1.ph = 2 ∧ True ∧ (runTa j jv hz 6 (ta0 t s 0 0 who slot y8) C).2 = ((C.set hz (slot + 1)).set hz 0)) := by
            have h := alone_lost hok rfl rfl hjz (by rw [(HI.out j (by have := HJ.out; omega)).1]; exact HNE.out)
            exact ⟨h.1, trivial, h.2⟩
          clear hok
          go_wp2_with fail
          generalize (ta0 t s 0 0 who slot y8) = k0 at HT0 HOK HD
          go_loopw [20] (fun i wr => ∃ (q : Nat) (v : Value) (L : List Ev), q ≤ 6 ∧ i = .int .i64 q ∧ Hid (TaHold W wr p c v (runTa j jv hz q k0 C).2 L b (runTa j jv hz q k0 C).1 []) ∧ Hid (L.length ≤ 100 + q)) (fun i _ => 6 - (intOf i).toNat)
          case atStart => exact ⟨0, v, L, by omega, rfl, HT0, by have := HL.out; show _ ≤ _; omega⟩
          case round =>
            clear HT0 HL
            obtain ⟨q, v, L, hq, rfl, HH, HL⟩ := hrel
            rcases Nat.lt_or_ge q 6 with hq6 | hq6
            · have hq6' : (q : Int) < 6 := by omega
              have hst := HH.out.run HOK.out (by have := HL.out; omega)
              have HST := Lib.hid hst
              clear hst
              go_wp2_with fail
              refine HST.out.mono ?_
              rintro r w9 ⟨rfl, v9, L9, hH9, hL9⟩
              have HH9 := Lib.hid hH9
              clear hH9
              go_wp2_with fail
              go_roundw
              case rel => exact ⟨q + 1, v9, L9, by omega, by go_num, HH9, by have := HL.out; show _ ≤ _; omega⟩
              case measure => first | omega | (simp [intOf]; done) | (simp [intOf]; omega)
            · obtain rfl : q = 6 := by omega
              rw [show ((6 : Nat) : Int) = 6 from rfl]
              obtain ⟨D1, D2, D3⟩ := HD.out
              have HT6 := HH
              obtain ⟨k6, hk6⟩ : ∃ k6, (runTa j jv hz 6 k0 C).1 = k6 := ⟨_, rfl⟩
              rw [hk6] at HT6 D1
              (try rw [hk6] at D2)
              rw [D3] at HT6
              have HC6 : Hid (((C.set hz (slot + 1)).set hz 0).length = M) := by simp only [List.length_set]; exact HC.out
              have hge : ∀ i, i < N → i ≠ hz ∧ N + i ≠ hz ∧ N + i ≠ j := fun i hi => by have := HHZ.out; have := HJ.out; exact ⟨by omega, by omega, by omega⟩
              have HW6 : ∀ i, i < N → ((C.set hz (slot + 1)).set hz 0).getD i 0 = pk := fun i hi => by
                obtain ⟨g1, g2, g3⟩ := hge i hi
                rw [getD_set_ne' _ (fun e => g1 e.symm), getD_set_ne' _ (fun e => g1 e.symm)]
                exact (HI.out i hi).1
              have HV6 : Hid (∀ i, i < N → ((C.set hz (slot + 1)).set hz 0).getD (N + i) 0 = F i) := fun i hi => by
                obtain ⟨g1, g2, g3⟩ := hge i hi
                rw [getD_set_ne' _ (fun e => g2 e.symm), getD_set_ne' _ (fun e => g2 e.symm)]
                exact (HI.out i hi).2
              have HP6 := Lib.hid D1
              have HQ6 := Lib.hid D2
              clear D1 D2 D3 HH hk6 hge hq6 HD HOK HC HI
              generalize ((C.set hz (slot + 1)).set hz 0) = C6 at HT6 HC6 HW6 HV6
              have HWW := Lib.hid HW6
              clear HW6
              go_wp2_with fail
              obtain ⟨wo, rfl⟩ : ∃ wo : World, wo = wr := ⟨_, rfl⟩
              go_loopw [21] (fun i wr => ∃ (e : Nat), e ≤ N ∧ i = .int .i64 e ∧ Hid (TaHold W wr p c v C6 L b k6 [])) (fun i _ => N - (intOf i).toNat)
              case atStart => exact ⟨0, by omega, rfl, HT6⟩
              case round =>
                clear HT6
                obtain ⟨e, he, rfl, HH⟩ := hrel
                obtain ⟨q0, q1, q2, q3⟩ := HA.out.later HH.out.below Hs.out
                go_wp2_with fail
                refine (call_any t s 0 0 N _ hlay).mono ?_
                rintro r w5 ⟨rfl, hb5⟩
                have HH1 := Lib.hid (HH.out.later hb5)
                clear hb5 HH q0 q1 q2 q3
                rcases Nat.lt_or_ge e N with heN | heN
                · have heN' : (e : Int) < (N : Int) := by omega
                  have hue : IntKind.u64.wrap (e : Int) = (e : Int) := by rw [IntKind.wrap_u64]; omega
                  have hFe := HF.out e
                  have HW6 := HWW.out e heN
                  obtain ⟨q0, q1, q2, q3, z0, z1, z2, z3, z4⟩ := AtCW.mk' HA.out Hs.out HOW.out HH1.out.below
                  go_wp2_with fail
                  refine (HPA.out _).mono ?_
                  rintro r w6 ⟨rfl, hb6⟩
                  have HH2 := Lib.hid (HH1.out.later hb6)
                  clear hb6 HH1 q0 q1 q2 q3 z0 z1 z2 z3 z4
                  have HHc := HH2
                  clear HH2
                  by_cases hes : (e : Int) = slot
                  · have hes' : ((e : Int) == slot) = true := by simpa using hes
                    clear hes
                    obtain ⟨q0, q1, q2, q3, z0, z1, z2, z3, z4⟩ := AtCW.mk' HA.out Hs.out HOW.out HHc.out.below
                    clear z0 z1 z2 z3 z4
                    go_wp2_with fail
                    refine (word_at t s 0 0 e e _ rfl).mono ?_
                    rintro r wa ⟨rfl, hba⟩
                    have HHd := Lib.hid (HHc.out.later hba)
                    clear hba HHc q0 q1 q2 q3
                    go_wp2_with fail
                    refine (peek_in W.heap.size _ p c _ _ _ e pk HHd.out.mem (by rw [getD_in (by rw [HC6.out]; omega), HW6])).mono ?_
                    rintro r wr2 ⟨rfl, rfl⟩
                    obtain ⟨q0, q1, q2, q3⟩ := HA.out.later HHd.out.below Hs.out
                    go_wp2_with fail
                    refine (value_at t s 0 0 N e (N + e) _ hlay (by omega) (by omega) (by omega)).mono ?_
                    rintro r wb ⟨rfl, hbb⟩
                    have HHe := Lib.hid (HHd.out.later hbb)
                    clear hbb HHd q0 q1 q2 q3
                    go_wp2_with fail
                    refine (peek_in W.heap.size _ p c _ _ _ (N + e) (F e) HHe.out.mem (by rw [getD_in (by rw [HC6.out]; omega), HV6.out e (by omega)])).mono ?_
                    rintro r wr2 ⟨rfl, rfl⟩
                    go_wp2_with fail
                    go_roundw
                    case rel => exact ⟨e + 1, by omega, by go_num, HHe⟩
                    case measure => first | omega | (simp [intOf]; done) | (simp [intOf]; omega)
                  · have hes' : ((e : Int) == slot) = false := by simpa using hes
                    clear hes
                    obtain ⟨q0, q1, q2, q3, z0, z1, z2, z3, z4⟩ := AtCW.mk' HA.out Hs.out HOW.out HHc.out.below
                    clear z0 z1 z2 z3 z4
                    go_wp2_with fail
                    refine (word_at t s 0 0 e e _ rfl).mono ?_
                    rintro r wa ⟨rfl, hba⟩
                    have HHd := Lib.hid (HHc.out.later hba)
                    clear hba HHc q0 q1 q2 q3
                    go_wp2_with fail
                    refine (peek_in W.heap.size _ p c _ _ _ e pk HHd.out.mem (by rw [getD_in (by rw [HC6.out]; omega), HW6])).mono ?_
                    rintro r wr2 ⟨rfl, rfl⟩
                    obtain ⟨q0, q1, q2, q3⟩ := HA.out.later HHd.out.below Hs.out
                    go_wp2_with fail
                    refine (value_at t s 0 0 N e (N + e) _ hlay (by omega) (by omega) (by omega)).mono ?_
                    rintro r wb ⟨rfl, hbb⟩
                    have HHe := Lib.hid (HHd.out.later hbb)
                    clear hbb HHd q0 q1 q2 q3
                    go_wp2_with fail
                    refine (peek_in W.heap.size _ p c _ _ _ (N + e) (F e) HHe.out.mem (by rw [getD_in (by rw [HC6.out]; omega), HV6.out e (by omega)])).mono ?_
                    rintro r wr2 ⟨rfl, rfl⟩
                    go_wp2_with fail
                    go_roundw
                    case rel => exact ⟨e + 1, by omega, by go_num, HHe⟩
                    case measure => first | omega | (simp [intOf]; done) | (simp [intOf]; omega)
                · have heN' : ¬ (e : Int) < (N : Int) := by omega
                  go_wp2_with fail
                  refine (taphase_at 2 HP6.out HH1.out.obj).mono ?_
                  rintro r wr2 ⟨rfl, rfl⟩
                  go_wp2_with fail
                  refine (tavalue_at 0 (by rw [if_neg (by rw [HP6.out]; decide)]) HH1.out.obj).mono ?_
                  rintro r wr2 ⟨rfl, rfl⟩
                  go_wp2_with fail
                  go_ret
                  exact ⟨rfl, below_step' HB.out HH1.out.below HBS.out⟩
  · have hrf : rightW a4_0 a4_1 a4_2 a4_3 a4_4 = false := by simpa using hr
    rw [hrf]
    clear hr hrf
    go_wp2_with fail
    go_ret
    exact ⟨rfl, HB2'.out⟩

end Go.Proofs.Ythncappmjdgmnaa
