/-
  The contract of Model.Step of package stackyardlaw05, by cases (mo_wide0, mo_wide1, mo_widef). No condition but that numbers fit their kinds.
-/
import Derived.Test.YtlogcoaajmbfeaaTickModel
namespace Go.Proofs.Ytlogcoaajmbfeaa
open Go.RowKit
set_option linter.unusedVariables false

section
variable (base : Nat) (w : World) (q p c : Nat) (v : Value) (C : List Int) (L : List Ev) (k : Mo) (nb : Nat) (m : Int)

set_option maxRecDepth 100000 in
set_option maxHeartbeats 4000000 in
theorem mo_wide0 (now z : Int) (hso : k.so = 4) (hn : k.n = 0) (d0 : 0 ≤ k.d) (d1 : k.d ≤ 100) (hn0 : 0 ≤ k.n) (hn1 : k.n ≤ 1000000) (hK : IsMo w q k) (hM : IsMem base w p c v C L) (ha : ¬ Foot p c v q) (hb : base ≤ w.heap.size) (hl : Lay k.t k.s m) (hnb : (nb : Int) = 2 * m + k.t) (hz : C[nb]? = some z) :
    Calls Try.prog 18 #[pt q, pt p, i64 now] w (MoPost base w q p c v C L { k with n := k.n + 1, cell := -1, a := low now }) := by
  have H := Lib.hid (show MoS base w w q p c v C L k from ⟨hK, hM, Keep.refl _ _, ha⟩)
  obtain ⟨s0, s1, s2, s3, s4, s5, s6, s7, s8, s9, s10, s11, s12, sf⟩ := id hK
  have f5 := sf 5
  have f6 := sf 6
  have f7 := sf 7
  have f8 := sf 8
  have f9 := sf 9
  have f10 := sf 10
  have f11 := sf 11
  have f12 := sf 12
  have hq := hK.lt
  have Hnb := Lib.hid hnb
  have Hz := Lib.hid hz
  have hnz := hM.numAt hz
  have q0 : (k.so == 0) = false := by simp [hso]
  have q1 : (k.so == 1) = false := by simp [hso]
  have q2 : (k.so == 2) = false := by simp [hso]
  have q3 : (k.so == 3) = false := by simp [hso]
  have r0 : (k.n == 0) = true := by simp [hn]
  have r1 : (k.n == k.d + 1) = false := by simp; omega
  clear hn
  have hnow : (now ≤ 16777215 ∧ low now = now) ∨ (16777215 < now ∧ low now = 16777215) := by unfold low; omega
  clear sf hM ha hnb hz hK hso
  rcases hnow with ⟨hn1, hlow⟩ | ⟨hn1, hlow⟩
  all_goals
    have HLow := Lib.hid hlow
    clear hlow
    go_enter Try.func18, Try.ntmps18
    go_wp2_with fail
    refine (cnum_0 _ _ _ _ m nb _ hl Hnb.out).mono ?_
    rintro r w1 ⟨rfl, hb1⟩
    replace H := Lib.hid (((H.out.set { k with cell := -1 } 10 (.int .i64 (-1)) rfl).set { k with cell := -1, n := k.n + 1 } 5 (.int .i64 (k.n + 1)) rfl).later hb1)
    clear hb1 s0 s1 s2 s3 s4 s5 s6 s7 s8 s9 s10 s11 s12 f5 f6 f7 f8 f9 f10 f11 f12 hq
    obtain ⟨t0, t1, t2, t3, t4, t5, t6, t7, t8, t9, t10, t11, t12, tf⟩ := id H.out.mo
    have g5 := tf 5; have g6 := tf 6; have g7 := tf 7; have g8 := tf 8; have g9 := tf 9; have g10 := tf 10; have g11 := tf 11; have g12 := tf 12
    clear tf
    go_wp2_with fail
    refine (peek_in base _ p c v C L nb z H.out.mem Hz.out).mono ?_
    rintro r w' ⟨rfl, rfl⟩
    go_wp2_with fail
    refine (low_any z _ hnz.1 hnz.2).mono ?_
    rintro r w' ⟨rfl, rfl⟩
    go_wp2_with fail
    go_wp2
    go_end0
    rw [HLow.out]
    first
    | exact ⟨rfl, (H.out.set { k with cell := -1, n := k.n + 1, a := now } 6 (.int .i64 (now)) rfl)⟩
    | exact ⟨rfl, (H.out.set { k with cell := -1, n := k.n + 1, a := 16777215 } 6 (.int .i64 (16777215)) rfl)⟩

set_option maxRecDepth 100000 in
set_option maxHeartbeats 4000000 in
theorem mo_wide1 (now z : Int) (hso : k.so = 4) (hn : k.n ≠ 0) (hd : k.n ≠ k.d + 1) (d0 : 0 ≤ k.d) (d1 : k.d ≤ 100) (hn0 : 0 ≤ k.n) (hn1 : k.n ≤ 1000000) (hK : IsMo w q k) (hM : IsMem base w p c v C L) (ha : ¬ Foot p c v q) (hb : base ≤ w.heap.size) (hl : Lay k.t k.s m) (hnb : (nb : Int) = 2 * m + k.t) (hz : C[nb]? = some z) :
    Calls Try.prog 18 #[pt q, pt p, i64 now] w (MoPost base w q p c v C L { k with n := k.n + 1, cell := -1 }) := by
  have H := Lib.hid (show MoS base w w q p c v C L k from ⟨hK, hM, Keep.refl _ _, ha⟩)
  obtain ⟨s0, s1, s2, s3, s4, s5, s6, s7, s8, s9, s10, s11, s12, sf⟩ := id hK
  have f5 := sf 5
  have f6 := sf 6
  have f7 := sf 7
  have f8 := sf 8
  have f9 := sf 9
  have f10 := sf 10
  have f11 := sf 11
  have f12 := sf 12
  have hq := hK.lt
  have Hnb := Lib.hid hnb
  have Hz := Lib.hid hz
  have hnz := hM.numAt hz
  have q0 : (k.so == 0) = false := by simp [hso]
  have q1 : (k.so == 1) = false := by simp [hso]
  have q2 : (k.so == 2) = false := by simp [hso]
  have q3 : (k.so == 3) = false := by simp [hso]
  have r0 : (k.n == 0) = false := by simp [hn]
  have r1 : (k.n == k.d + 1) = false := by simp [hd]
  clear hn hd
  have hnow : (now ≤ 16777215 ∧ low now = now) ∨ (16777215 < now ∧ low now = 16777215) := by unfold low; omega
  clear sf hM ha hnb hz hK hso
  rcases hnow with ⟨hn1, hlow⟩ | ⟨hn1, hlow⟩
  all_goals
    have HLow := Lib.hid hlow
    clear hlow
    go_enter Try.func18, Try.ntmps18
    go_wp2_with fail
    refine (cnum_0 _ _ _ _ m nb _ hl Hnb.out).mono ?_
    rintro r w1 ⟨rfl, hb1⟩
    replace H := Lib.hid (((H.out.set { k with cell := -1 } 10 (.int .i64 (-1)) rfl).set { k with cell := -1, n := k.n + 1 } 5 (.int .i64 (k.n + 1)) rfl).later hb1)
    clear hb1 s0 s1 s2 s3 s4 s5 s6 s7 s8 s9 s10 s11 s12 f5 f6 f7 f8 f9 f10 f11 f12 hq
    obtain ⟨t0, t1, t2, t3, t4, t5, t6, t7, t8, t9, t10, t11, t12, tf⟩ := id H.out.mo
    have g5 := tf 5; have g6 := tf 6; have g7 := tf 7; have g8 := tf 8; have g9 := tf 9; have g10 := tf 10; have g11 := tf 11; have g12 := tf 12
    clear tf
    go_wp2_with fail
    refine (peek_in base _ p c v C L nb z H.out.mem Hz.out).mono ?_
    rintro r w' ⟨rfl, rfl⟩
    go_wp2_with fail
    refine (low_any z _ hnz.1 hnz.2).mono ?_
    rintro r w' ⟨rfl, rfl⟩
    go_wp2_with fail
    go_wp2
    go_end0
    exact ⟨rfl, H.out⟩

set_option maxRecDepth 100000 in
set_option maxHeartbeats 4000000 in
theorem mo_widef (now z : Int) (hso : k.so = 4) (hn : k.n ≠ 0) (hd : k.n = k.d + 1) (X Y P : Int) (hmd : ∀ W : World, Calls Try.prog 34 #[i64 (k.a), i64 (low now)] W fun r w' => r = .returned (.tuple #[st X Y, i64 P]) ∧ Below W.heap.size W w')(d0 : 0 ≤ k.d) (d1 : k.d ≤ 100) (hn0 : 0 ≤ k.n) (hn1 : k.n ≤ 1000000) (hK : IsMo w q k) (hM : IsMem base w p c v C L) (ha : ¬ Foot p c v q) (hb : base ≤ w.heap.size) (hl : Lay k.t k.s m) (hnb : (nb : Int) = 2 * m + k.t) (hz : C[nb]? = some z) :
    Calls Try.prog 18 #[pt q, pt p, i64 now] w (MoPost base w q p c v C L { k with n := k.n + 1, cell := -1, x := X, y := Y, ph := P }) := by
  have HMD := Lib.hid hmd
  clear hmd
  have H := Lib.hid (show MoS base w w q p c v C L k from ⟨hK, hM, Keep.refl _ _, ha⟩)
  obtain ⟨s0, s1, s2, s3, s4, s5, s6, s7, s8, s9, s10, s11, s12, sf⟩ := id hK
  have f5 := sf 5
  have f6 := sf 6
  have f7 := sf 7
  have f8 := sf 8
  have f9 := sf 9
  have f10 := sf 10
  have f11 := sf 11
  have f12 := sf 12
  have hq := hK.lt
  have Hnb := Lib.hid hnb
  have Hz := Lib.hid hz
  have hnz := hM.numAt hz
  have q0 : (k.so == 0) = false := by simp [hso]
  have q1 : (k.so == 1) = false := by simp [hso]
  have q2 : (k.so == 2) = false := by simp [hso]
  have q3 : (k.so == 3) = false := by simp [hso]
  have r0 : (k.n == 0) = false := by simp [hn]
  have r1 : (k.n == k.d + 1) = true := by simp [hd]
  clear hn hd
  have hnow : (now ≤ 16777215 ∧ low now = now) ∨ (16777215 < now ∧ low now = 16777215) := by unfold low; omega
  clear sf hM ha hnb hz hK hso
  rcases hnow with ⟨hn1, hlow⟩ | ⟨hn1, hlow⟩
  all_goals
    have HLow := Lib.hid hlow
    clear hlow
    go_enter Try.func18, Try.ntmps18
    go_wp2_with fail
    refine (cnum_0 _ _ _ _ m nb _ hl Hnb.out).mono ?_
    rintro r w1 ⟨rfl, hb1⟩
    replace H := Lib.hid (((H.out.set { k with cell := -1 } 10 (.int .i64 (-1)) rfl).set { k with cell := -1, n := k.n + 1 } 5 (.int .i64 (k.n + 1)) rfl).later hb1)
    clear hb1 s0 s1 s2 s3 s4 s5 s6 s7 s8 s9 s10 s11 s12 f5 f6 f7 f8 f9 f10 f11 f12 hq
    obtain ⟨t0, t1, t2, t3, t4, t5, t6, t7, t8, t9, t10, t11, t12, tf⟩ := id H.out.mo
    have g5 := tf 5; have g6 := tf 6; have g7 := tf 7; have g8 := tf 8; have g9 := tf 9; have g10 := tf 10; have g11 := tf 11; have g12 := tf 12
    clear tf
    go_wp2_with fail
    refine (peek_in base _ p c v C L nb z H.out.mem Hz.out).mono ?_
    rintro r w' ⟨rfl, rfl⟩
    go_wp2_with fail
    refine (low_any z _ hnz.1 hnz.2).mono ?_
    rintro r w' ⟨rfl, rfl⟩
    go_wp2_with fail
    rw [HLow.out] at HMD
    refine (HMD.out _).mono ?_
    rintro r w2 ⟨rfl, hb2⟩
    replace H := Lib.hid (H.out.later hb2)
    clear hb2
    (try clear t0 t1 t2 t3 t4 t5 t6 t7 t8 t9 t10 t11 t12 g5 g6 g7 g8 g9 g10 g11 g12)
    obtain ⟨t0, t1, t2, t3, t4, t5, t6, t7, t8, t9, t10, t11, t12, tf⟩ := id H.out.mo
    have g5 := tf 5; have g6 := tf 6; have g7 := tf 7; have g8 := tf 8; have g9 := tf 9; have g10 := tf 10; have g11 := tf 11; have g12 := tf 12
    clear tf
    go_wp2
    go_end0
    exact ⟨rfl, (((H.out.set { k with cell := -1, n := k.n + 1, x := X } 7 (.int .i64 (X)) rfl).set { k with cell := -1, n := k.n + 1, x := X, y := Y } 8 (.int .i64 (Y)) rfl).set { k with cell := -1, n := k.n + 1, x := X, y := Y, ph := P } 9 (.int .i64 (P)) rfl)⟩
end

end Go.Proofs.Ytlogcoaajmbfeaa
