/-
  TakeSteps answers true for all numbers, every word and every list of turns, and leaves all memory that was there as it was. No condition.
-/
import Derived.Test.YtengomcanconfaaTakeBook
import Derived.Test.YtengomcanconfaaTakeRacePure
import Derived.Test.YtengomcanconfaaTickTouched
namespace Go.Proofs.Ytengomcanconfaa
open Go.RowKit
set_option linter.unusedVariables false
attribute [local go_sem ↓] fld0

/-- The layout's box and a word's. -/
structure AtCW9 (cb fb : Nat) (t s a b c d e : Int) (w : World) : Prop where
  c0 : w.cell? ⟨cb, 0, none⟩ = some (i64 t)
  c1 : w.cell? ⟨cb, 1, none⟩ = some (i64 s)
  c2 : w.cell? ⟨cb, 2, none⟩ = some (i64 0)
  c3 : w.cell? ⟨cb, 3, none⟩ = some (i64 0)
  z0 : w.cell? ⟨fb, 0, none⟩ = some (i64 a)
  z1 : w.cell? ⟨fb, 1, none⟩ = some (i64 b)
  z2 : w.cell? ⟨fb, 2, none⟩ = some (i64 c)
  z3 : w.cell? ⟨fb, 3, none⟩ = some (i64 d)
  z4 : w.cell? ⟨fb, 4, none⟩ = some (i64 e)
theorem AtCW9.mk' {W w : World} {cb fb : Nat} {t s a b c d e : Int} (hA : AtC W cb t s 0 0) (hs : cb < W.heap.size) (hO : IsObj W fb [i64 a, i64 b, i64 c, i64 d, i64 e]) (h : Below W.heap.size W w) : AtCW9 cb fb t s a b c d e w := by
  obtain ⟨q0, q1, q2, q3⟩ := hA.later h hs
  have o := hO.later h
  exact ⟨q0, q1, q2, q3, o.at' 0 _ rfl, o.at' 1 _ rfl, o.at' 2 _ rfl, o.at' 3 _ rfl, o.at' 4 _ rfl⟩
theorem and9_3 (a : Int) : bits .and .i64 a 3 = a % 4 := by rw [show (3 : Int) = ((3 : Nat) : Int) from rfl, and_i64 a 3 2 rfl (by decide)]; rfl

/-- Turns as they came in. -/
theorem rows_turn9 {w : World} {a0 : Option Addr} {len cap : Nat} (h : IsRows w [.inl .i64, .inl .i64, .inl .u64] a0 len cap) :
    ∃ b off, ∃ X : Nat → Int × Int × Int, ∀ i, i < len → a0 = some ⟨b, off, none⟩ ∧ len ≤ cap ∧ b < w.heap.size ∧ w.cell? ⟨b, off + i * 3, none⟩ = some (i64 (X i).1) ∧ w.cell? ⟨b, off + i * 3 + 1, none⟩ = some (i64 (X i).2.1) ∧ w.cell? ⟨b, off + i * 3 + 2, none⟩ = some (u64 (X i).2.2) ∧ 0 ≤ (X i).2.2 ∧ (X i).2.2 ≤ 18446744073709551615 := by
  rcases Nat.eq_zero_or_pos len with h0 | hl
  · exact ⟨0, 0, fun _ => (0, 0, 0), fun i hi => by omega⟩
  obtain ⟨h1, h2, h3, h4, h5⟩ := h
  obtain ⟨b, off, rfl⟩ := h4 hl
  have hx : ∀ i, ∃ x : Int × Int × Int, i < len → w.cell? ⟨b, off + i * 3, none⟩ = some (i64 x.1) ∧ w.cell? ⟨b, off + i * 3 + 1, none⟩ = some (i64 x.2.1) ∧ w.cell? ⟨b, off + i * 3 + 2, none⟩ = some (u64 x.2.2) ∧ 0 ≤ x.2.2 ∧ x.2.2 ≤ 18446744073709551615 := by
    intro i
    by_cases hi : i < len
    · obtain ⟨cs, hf, hc⟩ := h5 b off rfl i hi
      obtain ⟨c0, l0, rfl, r0, f0⟩ := fit_cons hf
      obtain ⟨c1, l1, rfl, r1, f1⟩ := fit_cons f0
      obtain ⟨c2, l2, rfl, r2, f2⟩ := fit_cons f1
      obtain ⟨x0, rfl, g0⟩ := r0
      obtain ⟨x1, rfl, g1⟩ := r1
      obtain ⟨x2, rfl, g2⟩ := r2
      exact ⟨⟨x0, x1, x2⟩, fun _ => ⟨hc 0 _ rfl, hc 1 _ rfl, hc 2 _ rfl, (bounds_u64 g2).1, (bounds_u64 g2).2⟩⟩
    · exact ⟨⟨0, 0, 0⟩, fun h => absurd h hi⟩
  obtain ⟨X, hX⟩ := Classical.axiomOfChoice hx
  exact ⟨b, off, X, fun i hi => ⟨rfl, h1, World.block_lt_of_cell? w _ (hX 0 hl).1, hX i hi⟩⟩

set_option maxRecDepth 100000 in
set_option maxHeartbeats 16000000 in
theorem walk_TakeSteps (a0 : Int) (a1 : Int) (a2 : Int) (a3 : Int) (a4_0 : Int) (a4_1 : Int) (a4_2 : Int) (a4_3 : Int) (a4_4 : Int) (a5 : Int) (a6 : Option Addr) (len6 cap6 : Nat) (w : World) (w0 : (Lit.int .i64 a0).wf = true) (w1 : (Lit.int .i64 a1).wf = true) (w2 : (Lit.int .i64 a2).wf = true) (w3 : (Lit.int .i64 a3).wf = true) (w4_0 : (Lit.int .i64 a4_0).wf = true) (w4_1 : (Lit.int .i64 a4_1).wf = true) (w4_2 : (Lit.int .i64 a4_2).wf = true) (w4_3 : (Lit.int .i64 a4_3).wf = true) (w4_4 : (Lit.int .i64 a4_4).wf = true) (w5 : (Lit.int .u64 a5).wf = true) (w6 : IsRows w [.inl .i64, .inl .i64, .inl .u64] a6 len6 cap6) :
    Calls Try.prog 3 #[.int .i64 a0, .int .i64 a1, .int .i64 a2, .int .i64 a3, .agg #[.int .i64 a4_0, .int .i64 a4_1, .int .i64 a4_2, .int .i64 a4_3, .int .i64 a4_4], .int .u64 a5, .slice a6 len6 cap6] w fun e w' => e = .returned (.bool true) ∧ Below w.heap.size w w' := by
  obtain ⟨x0, x1⟩ := bounds_u64 w5
  obtain ⟨tb, off, X, hX⟩ := rows_turn9 w6
  have HX := Lib.hid hX
  clear w0 w1 w2 w3 w4_0 w4_1 w4_2 w4_3 w4_4 w5 w6 hX
  obtain ⟨u2, hu2, l2, g2⟩ : ∃ u, bits .and .i64 a2 65535 = u ∧ 0 ≤ u ∧ u ≤ 65535 := ⟨_, and_ffff a2, by omega, by omega⟩
  obtain ⟨u3, hu3, l3, g3⟩ : ∃ u, bits .and .i64 a3 65535 = u ∧ 0 ≤ u ∧ u ≤ 65535 := ⟨_, and_ffff a3, by omega, by omega⟩
  have hBx := below_new (Below.refl w.heap.size w) (.cells #[.int .i64 a4_0, .int .i64 a4_1, .int .i64 a4_2, .int .i64 a4_3, .int .i64 a4_4] 27)
  have hOx : IsObj (w.alloc (.cells #[.int .i64 a4_0, .int .i64 a4_1, .int .i64 a4_2, .int .i64 a4_3, .int .i64 a4_4] 27)) w.heap.size [i64 a4_0, i64 a4_1, i64 a4_2, i64 a4_3, i64 a4_4] := IsObj.made w [i64 a4_0, i64 a4_1, i64 a4_2, i64 a4_3, i64 a4_4] 27
  have HBx := Lib.hid hBx
  have HOx := Lib.hid hOx
  clear hBx hOx
  go_enter Try.func3, Try.ntmps3
  go_wp2_with fail
  generalize w.alloc (.cells #[.int .i64 a4_0, .int .i64 a4_1, .int .i64 a4_2, .int .i64 a4_3, .int .i64 a4_4] 27) = wb at HBx HOx ⊢
  obtain ⟨wsz, hwsz⟩ : ∃ n, w.heap.size = n := ⟨_, rfl⟩
  rw [hwsz] at HOx ⊢
  refine (head9_any _).mono ?_
  rintro e w1 ⟨rfl, hb1⟩
  by_cases hbig : 12 < len6
  · have hbig' : (12 : Int) < (len6 : Int) := by omega
    have hbig2 : decide ((12 : Int) < (len6 : Int)) = true := decide_eq_true hbig'
    have HBb := Lib.hid (below_step HBx.out hb1)
    clear hb1 HOx HBx hbig HX
    go_wp2_with fail
    go_ret
    exact ⟨rfl, HBb.out⟩
  have hbig' : ¬ (12 : Int) < (len6 : Int) := by omega
  have hbig2 : decide ((12 : Int) < (len6 : Int)) = false := decide_eq_false hbig'
  have Hlen : Hid (len6 ≤ 12) := by show _ ≤ _; omega
  have HOx1 := Lib.hid (HOx.out.later hb1)
  obtain ⟨z0, z1, z2, z3, z4⟩ : w1.cell? ⟨wsz, 0, none⟩ = some (i64 a4_0) ∧ w1.cell? ⟨wsz, 1, none⟩ = some (i64 a4_1) ∧ w1.cell? ⟨wsz, 2, none⟩ = some (i64 a4_2) ∧ w1.cell? ⟨wsz, 3, none⟩ = some (i64 a4_3) ∧ w1.cell? ⟨wsz, 4, none⟩ = some (i64 a4_4) := ⟨HOx1.out.at' 0 _ rfl, HOx1.out.at' 1 _ rfl, HOx1.out.at' 2 _ rfl, HOx1.out.at' 3 _ rfl, HOx1.out.at' 4 _ rfl⟩
  clear hbig
  go_wp2_with fail
  refine (wright_any a4_0 a4_1 a4_2 a4_3 a4_4 _).mono ?_
  rintro r w2 ⟨rfl, hb2⟩
  clear z0 z1 z2 z3 z4 hbig' hbig2
  have HB2' := Lib.hid (below_step (below_step HBx.out hb1) hb2)
  have HO1 := Lib.hid (HOx1.out.later hb2)
  clear hb1 hb2 HOx1 HOx HBx
  by_cases hr : rightW a4_0 a4_1 a4_2 a4_3 a4_4 = true
  rotate_left
  · have hrf : rightW a4_0 a4_1 a4_2 a4_3 a4_4 = false := by simpa using hr
    rw [hrf]
    clear hr hrf
    go_wp2_with fail
    go_ret
    exact ⟨rfl, HB2'.out⟩
  have hwr := of_decide_eq_true hr
  obtain ⟨pk, hpk⟩ : ∃ pk : Int, a4_0 + 4 * a4_1 + 8 * a4_2 + 65536 * a4_3 + 1099511627776 * a4_4 = pk := ⟨_, rfl⟩
  have pk0 : 0 ≤ pk := by omega
  have pk1 : pk ≤ 18446744073709551615 := by omega
  have htk : 2 + 4 * a4_1 + 8 * a4_2 + 65536 * a4_3 + 1099511627776 * a4_4 = tkW pk := by unfold tkW; omega
  have hpa := fun W => pack_right a4_0 a4_1 a4_2 a4_3 a4_4 W hwr
  have hta := fun W => pack_right 2 a4_1 a4_2 a4_3 a4_4 W (by omega)
  simp only [hpk] at hpa
  simp only [htk] at hta
  have HPA := Lib.hid hpa
  have HTA := Lib.hid hta
  rw [hr]
  clear hpa hta hpk htk hwr hr
  go_wp2_with fail
  refine (conf2_any _ _ _).mono ?_
  rintro e w3 ⟨t, s, rfl, t1, t2, s1, s2, hb3⟩
  have hB2 := Lib.hid (below_step HB2'.out hb3)
  have HO2 := Lib.hid (HO1.out.later hb3)
  clear hb3 HB2' HO1 w2 w1
  obtain ⟨w1, rfl⟩ : ∃ w1 : World, w1 = w3 := ⟨_, rfl⟩
  obtain ⟨w2, rfl⟩ : ∃ w2 : World, w2 = w1 := ⟨_, rfl⟩
  have ht0 : (t == 0) = false := by simp; omega
  obtain ⟨N, hNe, hlay, hN1, hN2⟩ := lay44 t1 t2 s1 s2
  have hn0 : ¬ (N : Int) = 0 := by omega
  have hn0' : ((N : Int) == 0) = false := by simp; omega
  clear hNe
  have hA := AtC.made w2 t s 0 0
  have hB3 := below_new (Below.refl w2.heap.size w2) (.cells #[.int .i64 t, .int .i64 s, .int .i64 0, .int .i64 0] 33)
  have hs3 : w2.heap.size < (w2.alloc (.cells #[.int .i64 t, .int .i64 s, .int .i64 0, .int .i64 0] 33)).heap.size := by simp
  have HA := Lib.hid hA
  have HB := Lib.hid (below_step hB2.out hB3)
  have Hs := Lib.hid hs3
  have HBS : Hid (w.heap.size ≤ (w2.alloc (.cells #[.int .i64 t, .int .i64 s, .int .i64 0, .int .i64 0] 33)).heap.size) := HB.out.size
  have HOW : Hid (IsObj (w2.alloc (.cells #[.int .i64 t, .int .i64 s, .int .i64 0, .int .i64 0] 33)) wsz [i64 a4_0, i64 a4_1, i64 a4_2, i64 a4_3, i64 a4_4]) := HO2.out.later (below_new (Below.refl _ _) _)
  clear hA hB3 hs3 hB2 HO2
  go_wp2_with fail
  have hw0 := Int.emod_nonneg u2 (show t ≠ 0 by omega)
  have hw1 := Int.emod_lt_of_pos u2 (show 0 < t by omega)
  generalize u2 % t = who at hw0 hw1 ⊢
  clear hu2 l2 g2
  generalize w2.alloc (.cells #[.int .i64 t, .int .i64 s, .int .i64 0, .int .i64 0] 33) = W at HA HB Hs HBS HOW ⊢
  generalize w2.heap.size = cb at HA Hs ⊢
  clear w2
  refine (call_any t s 0 0 N _ hlay).mono ?_
  rintro r w2 ⟨rfl, hb2⟩
  obtain ⟨q0, q1, q2, q3⟩ := HA.out.later hb2 Hs.out
  have HB2 := Lib.hid hb2
  clear hb2
  go_wp2_with fail
  have hs0 := Int.emod_nonneg u3 (show (N : Int) ≠ 0 by omega)
  have hs1 := Int.emod_lt_of_pos u3 (show 0 < (N : Int) by omega)
  generalize u3 % (N : Int) = slot at hs0 hs1 ⊢
  clear hu3 l3 g3 q0 q1 q2 q3
  refine (ccells_any t s 0 0 N _ hlay).mono ?_
  rintro r w3 ⟨rfl, hb3⟩
  have hb13 := below_step HB2.out hb3
  obtain ⟨M, hM⟩ : ∃ M : Nat, 2 * (N : Int) + 2 * t = (M : Int) := ⟨(2 * (N : Int) + 2 * t).toNat, by omega⟩
  have HM := Lib.hid hM
  rw [hM]
  clear hM hb3 HB2
  go_wp2_with fail
  refine (new_nat W.heap.size M M _ hb13.size (by have := HM.out; omega) (.inl rfl)).mono ?_
  rintro r w4 ⟨p, c, rfl, hM4, hb4, hp, hc⟩
  have HH := Lib.hid (Hold.cells hb13 hM4 hb4 hp hc)
  have HL0 : Hid ((List.replicate M (0 : Int)).length = M) := List.length_replicate
  clear hM4 hb4 hp hc hb13
  obtain ⟨j, hj⟩ : ∃ j : Nat, slot = (j : Int) := ⟨slot.toNat, by omega⟩
  obtain ⟨jv, hjv⟩ : ∃ jv : Nat, (N : Int) + slot = (jv : Int) := ⟨((N : Int) + slot).toNat, by omega⟩
  obtain ⟨hz, hhz⟩ : ∃ hz : Nat, 2 * (N : Int) + who = (hz : Int) := ⟨(2 * (N : Int) + who).toNat, by omega⟩
  have HJ := Lib.hid hj
  have HJV := Lib.hid hjv
  have HHZ := Lib.hid hhz
  clear hj hjv hhz
  have hsl : slot ≤ 16 := by omega
  have hu2 : IntKind.u64.wrap (slot + 1) = slot + 1 := by rw [IntKind.wrap_u64]; omega
  have HjM : Hid (j < M) := by have := HJ.out; have := HM.out; show _ < _; omega
  have HvM : Hid (jv < M) := by have := HJV.out; have := HM.out; show _ < _; omega
  have HzM : Hid (hz < M) := by have := HHZ.out; have := HM.out; show _ < _; omega
  obtain ⟨q0, q1, q2, q3, z0, z1, z2, z3, z4⟩ := AtCW9.mk' HA.out Hs.out HOW.out HH.out.below
  go_wp2_with fail
  refine (HPA.out _).mono ?_
  rintro r w5 ⟨rfl, hb5⟩
  have HH1 := Lib.hid (HH.out.later hb5)
  clear hb5 HH q0 q1 q2 q3 z0 z1 z2 z3 z4
  obtain ⟨q0, q1, q2, q3⟩ := HA.out.later HH1.out.below Hs.out
  go_wp2_with fail
  refine (word_at t s 0 0 slot j _ HJ.out).mono ?_
  rintro r w6 ⟨rfl, hb6⟩
  have HH2 := Lib.hid (HH1.out.later hb6)
  clear hb6 HH1 q0 q1 q2 q3
  go_wp2_with fail
  refine (store_in W.heap.size _ p c _ _ _ (-1) j _ pk (Hold.has HH2.out 0 _ rfl) (getD_in (by rw [HL0.out]; exact HjM.out)) HH2.out.size (by decide) pk0 pk1).mono ?_
  rintro r w7 ⟨rfl, v7, hT7⟩
  have HH3 := Lib.hid (HH2.out.mem 0 rfl hT7)
  clear hT7 HH2
  obtain ⟨q0, q1, q2, q3⟩ := HA.out.later HH3.out.below Hs.out
  go_wp2_with fail
  refine (value_at t s 0 0 N slot jv _ hlay hs0 (by omega) HJV.out).mono ?_
  rintro r w8 ⟨rfl, hb8⟩
  have HH4 := Lib.hid (HH3.out.later hb8)
  clear hb8 HH3 q0 q1 q2 q3
  go_wp2_with fail
  refine (store_in W.heap.size _ p c _ _ _ (-1) jv _ a5 (Hold.has HH4.out 0 _ rfl) (getD_in (by rw [List.length_set, HL0.out]; exact HvM.out)) HH4.out.size (by simp) x0 x1).mono ?_
  rintro r w9 ⟨rfl, v9, hT9⟩
  have HH5 := Lib.hid (HH4.out.mem 0 rfl hT9)
  clear hT9 HH4
  obtain ⟨C0, hC0, hCl⟩ : ∃ C0 : List Int, ((List.replicate M (0 : Int)).set j pk).set jv a5 = C0 ∧ C0.length = M := ⟨_, rfl, by simp⟩
  obtain ⟨L0, hL0, hLl⟩ : ∃ L0 : List Ev, ([] ++ [⟨-1, 1, (j : Int), (List.replicate M (0 : Int)).getD j 0, pk, true⟩] ++ [⟨-1, 1, (jv : Int), ((List.replicate M (0 : Int)).set j pk).getD jv 0, a5, true⟩] : List Ev) = L0 ∧ L0.length ≤ 2 := ⟨_, rfl, by simp⟩
  have HH6 : Hid (Hold W w9 [tMem W.heap.size p c v9 C0 L0]) := by have := HH5.out; rw [← hL0, ← hC0]; exact this
  have HL := Lib.hid hLl
  have HC := Lib.hid hCl
  clear HH5 hC0 hL0 hLl hCl HL0
  obtain ⟨q0, q1, q2, q3⟩ := HA.out.later HH6.out.below Hs.out
  go_wp2_with fail
  refine (tanew_any _ t s 0 0 who slot pk).mono ?_
  rintro r w10 ⟨b, rfl, hS10, hb10, hbb10⟩
  have HH7 : Hid (TaHold W w10 p c v9 C0 L0 b (ta0 t s 0 0 who slot pk) []) := TaHold.begun HH6.out hb10 hS10 hbb10
  clear hS10 hb10 hbb10 HH6 q0 q1 q2 q3
  have HOK : Hid ((ta0 t s 0 0 who slot pk).Ok N j jv hz C0) := ⟨hlay, by rw [HC.out]; exact HM.out.symm, hw0, hw1, hs0, hs1, HJ.out, HJV.out, HHZ.out, pk0, pk1, fun _ => .inl ⟨rfl, rfl⟩⟩
  have HSA : Hid ((ta0 t s 0 0 who slot pk).slot = slot ∧ (ta0 t s 0 0 who slot pk).word = pk ∧ (ta0 t s 0 0 who slot pk).who = who) := ⟨rfl, rfl, rfl⟩
  have HBK : Hid (BookOn 0 false 0 (ta0 t s 0 0 who slot pk)) := ⟨rfl, rfl, .inl ⟨rfl, rfl, by omega, by omega⟩, fun _ h => by omega⟩
  go_wp2_with fail
  generalize ta0 t s 0 0 who slot pk = k0 at HH7 HOK HSA HBK
  go_loopw [19, 20, 21, 22, 23, 24] (fun vph vlo ven vva vn i wr => ∃ (q : Nat) (ph : Int) (lo en : Bool) (va n' : Int) (v : Value) (C : List Int) (L : List Ev) (k : Ta), q ≤ 7 ∧ i = .int .i64 q ∧ vph = .int .i64 ph ∧ vlo = .bool lo ∧ ven = .bool en ∧ vva = .int .u64 va ∧ vn = .int .i64 n' ∧ Hid (TaHold W wr p c v C L b k []) ∧ Hid (k.Ok N j jv hz C) ∧ Hid ((en = false ∧ ph = 0 ∧ n' = (q : Int) ∧ BookOn n' lo va k) ∨ (en = true ∧ BookEnd ph va k)) ∧ Hid (C.length = M) ∧ Hid (L.length ≤ 2 + 13 * q) ∧ Hid (k.slot = slot ∧ k.word = pk ∧ k.who = who)) (fun _ _ _ _ _ i _ => 7 - (intOf i).toNat)
  case atStart => exact ⟨0, 0, false, false, 0, 0, v9, C0, L0, k0, by omega, rfl, rfl, rfl, rfl, rfl, rfl, HH7, HOK, .inl ⟨rfl, rfl, rfl, HBK.out⟩, HC, HL, HSA⟩
  case round =>
    clear HH7 HOK HBK HC HL HSA
    obtain ⟨q, ph, lo, en, va, n', v, C, L, k, hq, rfl, rfl, rfl, rfl, rfl, rfl, HH, HOK, HBK, HC, HL, HSA⟩ := hrel
    rcases Nat.lt_or_ge q 7 with hq7 | hq7
    rotate_left
    · obtain rfl : q = 7 := by omega
      have hq7' : ¬ ((7 : Nat) : Int) < 7 := by omega
      rcases HBK.out with ⟨_, _, hnq, hB⟩ | ⟨rfl, hB⟩
      · exfalso
        rcases hB.nx with ⟨_, _, _, h⟩ | ⟨_, _, h⟩ <;> omega
      · have HP := Lib.hid hB.1
        clear HBK hB
        go_wp2_with fail
        refine (taphase_at ph HP.out HH.out.obj).mono ?_
        rintro r wr2 ⟨rfl, rfl⟩
        go_wp2_with fail
        go_ret
        exact ⟨rfl, below_step' HB.out HH.out.below HBS.out⟩
    have hq7' : (q : Int) < 7 := by omega
    obtain ⟨wo, rfl⟩ : ∃ wo : World, wo = wr := ⟨_, rfl⟩
    have HL1 : Hid (L.length ≤ 2 + 13 * q + 0) := HL.out
    go_wp2_with fail
    go_loopw [84] (fun i wr => ∃ (e : Nat) (v : Value) (C : List Int) (L : List Ev), e ≤ len6 ∧ i = .int .i64 e ∧ Hid (TaHold W wr p c v C L b k []) ∧ Hid (k.Ok N j jv hz C) ∧ Hid (C.length = M) ∧ Hid (L.length ≤ 2 + 13 * q + e)) (fun i _ => len6 - (intOf i).toNat)
    case atStart => exact ⟨0, v, C, L, by omega, rfl, HH, HOK, HC, HL1⟩
    case round =>
      clear HH HOK HC HL HL1
      obtain ⟨e, v, C, L, he6, rfl, HH, HOK, HC, HL⟩ := hrel
      rcases Nat.lt_or_ge e len6 with hel | hel
      · obtain ⟨rfl, hcap, htb, hx0, hx1, hx2, y0, y1⟩ := HX.out e hel
        have hwW : Below w.heap.size w wr := below_step' HB.out HH.out.below HBS.out
        have gx0 := (hwW.cell (p := ⟨tb, _, none⟩) (hwsz ▸ htb)).trans hx0
        have gx1 := (hwW.cell (p := ⟨tb, _, none⟩) (hwsz ▸ htb)).trans hx1
        have gx2 := (hwW.cell (p := ⟨tb, _, none⟩) (hwsz ▸ htb)).trans hx2
        generalize (X e).1 = at9 at gx0
        generalize (X e).2.1 = ce at gx1
        generalize (X e).2.2 = x at gx2 y0 y1
        have hel' : (e : Int) < (len6 : Int) := by omega
        have he12 : e < 12 := by have := Hlen.out; omega
        clear hx0 hx1 hx2 hwW
        have HHa := Lib.hid (HH.out.later (below_new (Below.refl _ _) (.cells #[i64 at9, i64 ce, .int .u64 x] 45)))
        by_cases he : at9 = (q : Int)
        rotate_left
        · have qe : (at9 == (q : Int)) = false := by simp [he]
          clear he
          go_wp2_with fail
          go_roundw
          case rel => exact ⟨e + 1, v, C, L, by omega, by go_num, HHa, HOK, HC, by have := HL.out; show _ ≤ _; omega⟩
          case measure => first | omega | (simp [intOf]; done) | (simp [intOf]; omega)
        have qe : (at9 == (q : Int)) = true := by simp [he]
        clear he
        have HU : Hid (IsObj (wr.alloc (.cells #[i64 at9, i64 ce, .int .u64 x] 45)) wr.heap.size [i64 at9, i64 ce, u64 x]) := IsObj.made wr [i64 at9, i64 ce, u64 x] 45
        obtain ⟨q0, q1, q2, q3⟩ := HA.out.later HHa.out.below Hs.out
        go_wp2_with fail
        refine (word_at t s 0 0 slot j _ HJ.out).mono ?_
        rintro r w5 ⟨rfl, hb5⟩
        have HHb := Lib.hid (HHa.out.later hb5)
        have HU1 := Lib.hid (HU.out.later hb5)
        clear hb5 q0 q1 q2 q3 gx0 gx1 gx2 HU HHa HH qe
        obtain ⟨q0, q1, q2, q3⟩ := HA.out.later HHb.out.below Hs.out
        have g1 : w5.cell? ⟨wr.heap.size, 1, none⟩ = some (i64 ce) := HU1.out.at' 1 _ rfl
        have g2 : w5.cell? ⟨wr.heap.size, 2, none⟩ = some (u64 x) := HU1.out.at' 2 _ rfl
        obtain ⟨c4, hc4, l4, g4⟩ : ∃ u, bits .and .i64 ce 3 = u ∧ 0 ≤ u ∧ u ≤ 3 := ⟨_, and9_3 ce, by omega, by omega⟩
        rcases (by omega : c4 = 0 ∨ c4 = 1 ∨ c4 = 2 ∨ c4 = 3) with rfl | rfl | rfl | rfl
        · skip
          go_wp2_with fail
          refine (value_at t s 0 0 N slot jv _ hlay hs0 (by omega) HJV.out).mono ?_
          rintro r w6 ⟨rfl, hb6⟩
          have HHc := Lib.hid (HHb.out.later hb6)
          clear hb6 HHb q0 q1 q2 q3 g1 g2 HU1
          go_wp2_with fail
          refine (store_in W.heap.size _ p c _ _ _ (-1) jv _ x HHc.out.mem (getD_in (by rw [HC.out]; exact HvM.out)) HHc.out.size (by have := HL.out; have := Hlen.out; omega) y0 y1).mono ?_
          rintro r w7 ⟨rfl, v7, hT7⟩
          have HH7 := Lib.hid (HHc.out.store hT7)
          clear hT7 HHc
          have HC7 : Hid ((C.set jv x).length = M) := by show _ = _; rw [List.length_set]; exact HC.out
          have HOK7 : Hid (k.Ok N j jv hz (C.set jv x)) := HOK.out.cells (List.length_set ..)
          have HL7 : ∀ ev : Ev, Hid ((L ++ [ev]).length ≤ 2 + 13 * q + (e + 1)) := fun ev => by show _ ≤ _; rw [List.length_append]; have := HL.out; simp; omega
          go_wp2_with fail
          go_roundw
          case rel => exact ⟨e + 1, v7, _, _, by omega, by go_num, HH7, HOK7, HC7, HL7 _⟩
          case measure => first | omega | (simp [intOf]; done) | (simp [intOf]; omega)
        · skip
          go_wp2_with fail
          refine (hazard_at t s 0 0 N who hz _ hlay hw0 (by omega) HHZ.out).mono ?_
          rintro r w6 ⟨rfl, hb6⟩
          have HHc := Lib.hid (HHb.out.later hb6)
          clear hb6 HHb q0 q1 q2 q3 g1 g2 HU1
          go_wp2_with fail
          refine (store_in W.heap.size _ p c _ _ _ (-1) hz _ x HHc.out.mem (getD_in (by rw [HC.out]; exact HzM.out)) HHc.out.size (by have := HL.out; have := Hlen.out; omega) y0 y1).mono ?_
          rintro r w7 ⟨rfl, v7, hT7⟩
          have HH7 := Lib.hid (HHc.out.store hT7)
          clear hT7 HHc
          have HC7 : Hid ((C.set hz x).length = M) := by show _ = _; rw [List.length_set]; exact HC.out
          have HOK7 : Hid (k.Ok N j jv hz (C.set hz x)) := HOK.out.cells (List.length_set ..)
          have HL7 : ∀ ev : Ev, Hid ((L ++ [ev]).length ≤ 2 + 13 * q + (e + 1)) := fun ev => by show _ ≤ _; rw [List.length_append]; have := HL.out; simp; omega
          go_wp2_with fail
          go_roundw
          case rel => exact ⟨e + 1, v7, _, _, by omega, by go_num, HH7, HOK7, HC7, HL7 _⟩
          case measure => first | omega | (simp [intOf]; done) | (simp [intOf]; omega)
        · skip
          go_wp2_with fail
          have HHc := HHb
          clear HHb q0 q1 q2 q3 g1 g2 HU1
          refine (store_in W.heap.size _ p c _ _ _ (-1) j _ pk HHc.out.mem (getD_in (by rw [HC.out]; exact HjM.out)) HHc.out.size (by have := HL.out; have := Hlen.out; omega) pk0 pk1).mono ?_
          rintro r w7 ⟨rfl, v7, hT7⟩
          have HH7 := Lib.hid (HHc.out.store hT7)
          clear hT7 HHc
          have HC7 : Hid ((C.set j pk).length = M) := by show _ = _; rw [List.length_set]; exact HC.out
          have HOK7 : Hid (k.Ok N j jv hz (C.set j pk)) := HOK.out.cells (List.length_set ..)
          have HL7 : ∀ ev : Ev, Hid ((L ++ [ev]).length ≤ 2 + 13 * q + (e + 1)) := fun ev => by show _ ≤ _; rw [List.length_append]; have := HL.out; simp; omega
          go_wp2_with fail
          go_roundw
          case rel => exact ⟨e + 1, v7, _, _, by omega, by go_num, HH7, HOK7, HC7, HL7 _⟩
          case measure => first | omega | (simp [intOf]; done) | (simp [intOf]; omega)
        · skip
          go_wp2_with fail
          have HHc := HHb
          clear HHb q0 q1 q2 q3 g1 g2 HU1
          refine (store_in W.heap.size _ p c _ _ _ (-1) j _ x HHc.out.mem (getD_in (by rw [HC.out]; exact HjM.out)) HHc.out.size (by have := HL.out; have := Hlen.out; omega) y0 y1).mono ?_
          rintro r w7 ⟨rfl, v7, hT7⟩
          have HH7 := Lib.hid (HHc.out.store hT7)
          clear hT7 HHc
          have HC7 : Hid ((C.set j x).length = M) := by show _ = _; rw [List.length_set]; exact HC.out
          have HOK7 : Hid (k.Ok N j jv hz (C.set j x)) := HOK.out.cells (List.length_set ..)
          have HL7 : ∀ ev : Ev, Hid ((L ++ [ev]).length ≤ 2 + 13 * q + (e + 1)) := fun ev => by show _ ≤ _; rw [List.length_append]; have := HL.out; simp; omega
          go_wp2_with fail
          go_roundw
          case rel => exact ⟨e + 1, v7, _, _, by omega, by go_num, HH7, HOK7, HC7, HL7 _⟩
          case measure => first | omega | (simp [intOf]; done) | (simp [intOf]; omega)
      have hel' : ¬ (e : Int) < (len6 : Int) := by omega
      have HL2 : Hid (L.length ≤ 2 + 13 * q + 12) := by have := HL.out; have := Hlen.out; show _ ≤ _; omega
      clear HL
      obtain ⟨LN, hLN⟩ : ∃ LN, L.length = LN := ⟨_, rfl⟩
      have HLN := Lib.hid hLN
      have HLB : Hid (LN ≤ 105) := by have := HL2.out; show _ ≤ _; omega
      clear hLN
      rcases HBK.out with ⟨rfl, rfl, hnq, hB⟩ | ⟨rfl, hB⟩
      rotate_left
      · obtain ⟨hB2, hcl, hev⟩ := hB.rest (j := j) (jv := jv) (hz := hz) (C := C)
        have HOK2 : Hid ((k.go j jv C).Ok N j jv hz C) := HOK.out.next rfl
        have HSA2 : Hid ((k.go j jv C).slot = slot ∧ (k.go j jv C).word = pk ∧ (k.go j jv C).who = who) := by
          have e := k.go_same j jv C
          exact ⟨e.slot.trans HSA.out.1, e.word.trans HSA.out.2.1, e.who.trans HSA.out.2.2⟩
        have hst := HH.out.call HOK.out (by have := HLN.out; have := HLB.out; omega)
        rw [hcl, hev, List.append_nil] at hst
        have HST := Lib.hid hst
        have HB9 := Lib.hid hB2
        have HP9 : Hid ((k.go j jv C).ph = ph) := hB2.1
        have HL9 : Hid (L.length ≤ 2 + 13 * (q + 1)) := by show _ ≤ _; have := HL2.out; omega
        clear hst hcl hev hB2 hB HBK
        generalize k.go j jv C = k2 at HOK2 HSA2 HST HB9 HP9
        go_wp2_with fail
        refine (count_any W.heap.size _ p c v C L HH.out.mem).mono ?_
        rintro r1 w' ⟨rfl, rfl⟩
        rw [HLN.out]
        go_wp2_with fail
        refine HST.out.mono ?_
        rintro r w9 ⟨rfl, v9, hH9⟩
        have HH9 := Lib.hid hH9
        clear hH9 HST HH
        rw [HP9.out]
        go_wp2_with fail
        refine (count_any W.heap.size _ p c v9 C L HH9.out.mem).mono ?_
        rintro r1 w' ⟨rfl, rfl⟩
        rw [HLN.out]
        go_wp2_with fail
        go_roundw
        case rel => exact ⟨q + 1, ph, lo, true, va, n', v9, C, L, k2, by omega, by go_num, rfl, rfl, rfl, rfl, rfl, HH9, HOK2, .inr ⟨rfl, HB9.out⟩, HC, HL9, HSA2⟩
        case measure => first | omega | (simp [intOf]; done) | (simp [intOf]; omega)
      have HNQ := Lib.hid hnq
      have hn1 : n' ≤ 7 := by omega
      have hn2 : 0 ≤ n' := by omega
      clear HBK hnq
      rcases hB.cases with rfl | ⟨rfl, rfl | rfl | rfl | rfl | rfl⟩
      · obtain ⟨hB2, hcl, hev⟩ := hB.s4n (j := j) (jv := jv) (hz := hz) (C := C)
        clear hB
        obtain ⟨q0, q1, q2, q3⟩ := HA.out.later HH.out.below Hs.out
        go_wp2_with fail
        refine (count_any W.heap.size _ p c v C L HH.out.mem).mono ?_
        rintro r1 w' ⟨rfl, rfl⟩
        rw [HLN.out]
        go_wp2_with fail
        refine (hazard_at t s 0 0 N who hz _ hlay hw0 (by omega) HHZ.out).mono ?_
        rintro r w5 ⟨rfl, hb5⟩
        have HHs := Lib.hid (HH.out.later hb5)
        clear hb5 HH q0 q1 q2 q3
        have HOK2 : Hid ((k.go j jv C).Ok N j jv hz (C.set hz 0)) := HOK.out.next (List.length_set ..)
        have HSA2 : Hid ((k.go j jv C).slot = slot ∧ (k.go j jv C).word = pk ∧ (k.go j jv C).who = who) := by
          have e := k.go_same j jv C
          exact ⟨e.slot.trans HSA.out.1, e.word.trans HSA.out.2.1, e.who.trans HSA.out.2.2⟩
        have hst := HHs.out.call HOK.out (by have := HLN.out; have := HLB.out; omega)
        rw [hcl, hev] at hst
        have HST := Lib.hid hst
        have HB9 := Lib.hid hB2
        have HP9 : Hid ((k.go j jv C).ph = 2) := hB2.1
        have HV9 : Hid ((if (k.go j jv C).ph = 1 then (k.go j jv C).value else 0) = 0) := hB2.value2
        have HX9 : Hid ((C.set hz 0)[hz]? = some (0)) := by show _ = _; rw [List.getElem?_set_self (by rw [HC.out]; exact HzM.out)]
        have HC9 : Hid ((C.set hz 0).length = M) := by show _ = _; rw [List.length_set]; exact HC.out
        have HL9 : Hid ((L ++ [(⟨k.who, 1, (hz : Int), C.getD hz 0, 0, true⟩ : Ev)]).length ≤ 2 + 13 * (q + 1)) := by show _ ≤ _; rw [List.length_append]; have := HL2.out; simp only [List.length_cons, List.length_nil]; omega
        clear hst hcl hev hB2
        generalize k.go j jv C = k2 at HOK2 HSA2 HST HB9 HP9 HV9
        go_wp2_with fail
        refine HST.out.mono ?_
        rintro r w9 ⟨rfl, v9, hH9⟩
        have HH9 := Lib.hid hH9
        clear hH9 HST HHs
        rw [HP9.out]
        go_wp2_with fail
        refine (touched_some W.heap.size _ p c v9 (C.set hz 0) L who 1 (0) hz LN (⟨k.who, 1, (hz : Int), C.getD hz 0, 0, true⟩ : Ev) HLN.out HH9.out.mem (by have := HLB.out; omega) HSA.out.2.2 rfl rfl rfl HX9.out).mono ?_
        rintro r w10 ⟨rfl, hb10⟩
        have HH10 := Lib.hid (HH9.out.later hb10)
        clear hb10 HH9
        go_wp2_with fail
        refine (tavalue_at (0) HV9.out HH10.out.obj).mono ?_
        rintro r wr2 ⟨rfl, rfl⟩
        go_wp2_with fail
        go_roundw
        case rel => exact ⟨q + 1, 2, true, true, va, (n' + 1), v9, (C.set hz 0), _, k2, by omega, by first | rfl | go_num, rfl, rfl, rfl, rfl, by first | rfl | go_num, HH10, HOK2, .inr ⟨rfl, HB9.out⟩, HC9, HL9, HSA2⟩
        case measure => first | omega | (simp [intOf]; done) | (simp [intOf]; omega)
      · obtain ⟨hB2, hcl, hev⟩ := hB.s0 (j := j) (jv := jv) (hz := hz) (C := C)
        rw [HSA.out.1] at hcl hev
        clear hB
        obtain ⟨q0, q1, q2, q3⟩ := HA.out.later HH.out.below Hs.out
        go_wp2_with fail
        refine (count_any W.heap.size _ p c v C L HH.out.mem).mono ?_
        rintro r1 w' ⟨rfl, rfl⟩
        rw [HLN.out]
        go_wp2_with fail
        refine (hazard_at t s 0 0 N who hz _ hlay hw0 (by omega) HHZ.out).mono ?_
        rintro r w5 ⟨rfl, hb5⟩
        have HHs := Lib.hid (HH.out.later hb5)
        clear hb5 HH q0 q1 q2 q3
        have HOK2 : Hid ((k.go j jv C).Ok N j jv hz (C.set hz (slot + 1))) := HOK.out.next (List.length_set ..)
        have HSA2 : Hid ((k.go j jv C).slot = slot ∧ (k.go j jv C).word = pk ∧ (k.go j jv C).who = who) := by
          have e := k.go_same j jv C
          exact ⟨e.slot.trans HSA.out.1, e.word.trans HSA.out.2.1, e.who.trans HSA.out.2.2⟩
        have hst := HHs.out.call HOK.out (by have := HLN.out; have := HLB.out; omega)
        rw [hcl, hev] at hst
        have HST := Lib.hid hst
        have HB9 := Lib.hid hB2
        have HP9 : Hid ((k.go j jv C).ph = 0) := hB2.ph
        have HV9 : Hid ((if (k.go j jv C).ph = 1 then (k.go j jv C).value else 0) = 0) := hB2.value0
        have HX9 : Hid ((C.set hz (slot + 1))[hz]? = some (slot + 1)) := by show _ = _; rw [List.getElem?_set_self (by rw [HC.out]; exact HzM.out)]
        have HC9 : Hid ((C.set hz (slot + 1)).length = M) := by show _ = _; rw [List.length_set]; exact HC.out
        have HL9 : Hid ((L ++ [(⟨k.who, 1, (hz : Int), C.getD hz 0, slot + 1, true⟩ : Ev)]).length ≤ 2 + 13 * (q + 1)) := by show _ ≤ _; rw [List.length_append]; have := HL2.out; simp only [List.length_cons, List.length_nil]; omega
        clear hst hcl hev hB2
        generalize k.go j jv C = k2 at HOK2 HSA2 HST HB9 HP9 HV9
        go_wp2_with fail
        refine HST.out.mono ?_
        rintro r w9 ⟨rfl, v9, hH9⟩
        have HH9 := Lib.hid hH9
        clear hH9 HST HHs
        rw [HP9.out]
        go_wp2_with fail
        refine (touched_some W.heap.size _ p c v9 (C.set hz (slot + 1)) L who 1 (slot + 1) hz LN (⟨k.who, 1, (hz : Int), C.getD hz 0, slot + 1, true⟩ : Ev) HLN.out HH9.out.mem (by have := HLB.out; omega) HSA.out.2.2 rfl rfl rfl HX9.out).mono ?_
        rintro r w10 ⟨rfl, hb10⟩
        have HH10 := Lib.hid (HH9.out.later hb10)
        clear hb10 HH9
        go_wp2_with fail
        refine (tavalue_at (0) HV9.out HH10.out.obj).mono ?_
        rintro r wr2 ⟨rfl, rfl⟩
        go_wp2_with fail
        go_roundw
        case rel => exact ⟨q + 1, 0, false, false, va, 1, v9, (C.set hz (slot + 1)), _, k2, by omega, by first | rfl | go_num, rfl, rfl, rfl, rfl, by first | rfl | go_num, HH10, HOK2, .inl ⟨rfl, rfl, by have := HNQ.out; omega, HB9.out⟩, HC9, HL9, HSA2⟩
        case measure => first | omega | (simp [intOf]; done) | (simp [intOf]; omega)
      · skip
        obtain ⟨y, hy⟩ : ∃ y, C.getD j 0 = y := ⟨_, rfl⟩
        have HYD := Lib.hid hy
        have HY : Hid (C[j]? = some y) := by rw [← hy]; exact getD_in (by rw [HC.out]; exact HjM.out)
        clear hy
        by_cases hw : y = pk
        · obtain ⟨hB2, hcl, hev⟩ := hB.s1y (j := j) (jv := jv) (hz := hz) (C := C) (by rw [HYD.out, HSA.out.2.1]; exact hw)
          rw [HYD.out] at hev
          have hwb : (y != pk) = false := by simp [hw]
          clear hB hw
          obtain ⟨q0, q1, q2, q3⟩ := HA.out.later HH.out.below Hs.out
          go_wp2_with fail
          refine (count_any W.heap.size _ p c v C L HH.out.mem).mono ?_
          rintro r1 w' ⟨rfl, rfl⟩
          rw [HLN.out]
          go_wp2_with fail
          refine (hazard_at t s 0 0 N who hz _ hlay hw0 (by omega) HHZ.out).mono ?_
          rintro r w5 ⟨rfl, hb5⟩
          have HHs := Lib.hid (HH.out.later hb5)
          clear hb5 HH q0 q1 q2 q3
          obtain ⟨q0, q1, q2, q3⟩ := HA.out.later HHs.out.below Hs.out
          go_wp2_with fail
          refine (word_at t s 0 0 slot j _ HJ.out).mono ?_
          rintro r w6 ⟨rfl, hb6⟩
          have HHt := Lib.hid (HHs.out.later hb6)
          clear hb6 HHs q0 q1 q2 q3
          go_wp2_with fail
          refine (peek_in W.heap.size _ p c _ _ _ j y HHt.out.mem HY.out).mono ?_
          rintro r wr2 ⟨rfl, rfl⟩
          have HHs := HHt
          clear HHt
          have HOK2 : Hid ((k.go j jv C).Ok N j jv hz C) := HOK.out.next rfl
          have HSA2 : Hid ((k.go j jv C).slot = slot ∧ (k.go j jv C).word = pk ∧ (k.go j jv C).who = who) := by
            have e := k.go_same j jv C
            exact ⟨e.slot.trans HSA.out.1, e.word.trans HSA.out.2.1, e.who.trans HSA.out.2.2⟩
          have hst := HHs.out.call HOK.out (by have := HLN.out; have := HLB.out; omega)
          rw [hcl, hev] at hst
          have HST := Lib.hid hst
          have HB9 := Lib.hid hB2
          have HP9 : Hid ((k.go j jv C).ph = 0) := hB2.ph
          have HV9 : Hid ((if (k.go j jv C).ph = 1 then (k.go j jv C).value else 0) = 0) := hB2.value0
          have HX9 : Hid (C[j]? = some (y)) := HY.out
          have HC9 : Hid (C.length = M) := HC.out
          have HL9 : Hid ((L ++ [(⟨k.who, 0, (j : Int), y, y, true⟩ : Ev)]).length ≤ 2 + 13 * (q + 1)) := by show _ ≤ _; rw [List.length_append]; have := HL2.out; simp only [List.length_cons, List.length_nil]; omega
          clear hst hcl hev hB2
          generalize k.go j jv C = k2 at HOK2 HSA2 HST HB9 HP9 HV9
          go_wp2_with fail
          refine HST.out.mono ?_
          rintro r w9 ⟨rfl, v9, hH9⟩
          have HH9 := Lib.hid hH9
          clear hH9 HST HHs
          rw [HP9.out]
          go_wp2_with fail
          refine (touched_some W.heap.size _ p c v9 C L who 0 (y) j LN (⟨k.who, 0, (j : Int), y, y, true⟩ : Ev) HLN.out HH9.out.mem (by have := HLB.out; omega) HSA.out.2.2 rfl rfl rfl HX9.out).mono ?_
          rintro r w10 ⟨rfl, hb10⟩
          have HH10 := Lib.hid (HH9.out.later hb10)
          clear hb10 HH9
          go_wp2_with fail
          refine (tavalue_at (0) HV9.out HH10.out.obj).mono ?_
          rintro r wr2 ⟨rfl, rfl⟩
          go_wp2_with fail
          go_roundw
          case rel => exact ⟨q + 1, 0, false, false, va, 2, v9, C, _, k2, by omega, by first | rfl | go_num, rfl, rfl, rfl, rfl, by first | rfl | go_num, HH10, HOK2, .inl ⟨rfl, rfl, by have := HNQ.out; omega, HB9.out⟩, HC9, HL9, HSA2⟩
          case measure => first | omega | (simp [intOf]; done) | (simp [intOf]; omega)
        · obtain ⟨hB2, hcl, hev⟩ := hB.s1n (j := j) (jv := jv) (hz := hz) (C := C) (by rw [HYD.out, HSA.out.2.1]; exact hw)
          rw [HYD.out] at hev
          have hwb : (y != pk) = true := by simp [hw]
          clear hB hw
          obtain ⟨q0, q1, q2, q3⟩ := HA.out.later HH.out.below Hs.out
          go_wp2_with fail
          refine (count_any W.heap.size _ p c v C L HH.out.mem).mono ?_
          rintro r1 w' ⟨rfl, rfl⟩
          rw [HLN.out]
          go_wp2_with fail
          refine (hazard_at t s 0 0 N who hz _ hlay hw0 (by omega) HHZ.out).mono ?_
          rintro r w5 ⟨rfl, hb5⟩
          have HHs := Lib.hid (HH.out.later hb5)
          clear hb5 HH q0 q1 q2 q3
          obtain ⟨q0, q1, q2, q3⟩ := HA.out.later HHs.out.below Hs.out
          go_wp2_with fail
          refine (word_at t s 0 0 slot j _ HJ.out).mono ?_
          rintro r w6 ⟨rfl, hb6⟩
          have HHt := Lib.hid (HHs.out.later hb6)
          clear hb6 HHs q0 q1 q2 q3
          go_wp2_with fail
          refine (peek_in W.heap.size _ p c _ _ _ j y HHt.out.mem HY.out).mono ?_
          rintro r wr2 ⟨rfl, rfl⟩
          have HHs := HHt
          clear HHt
          have HOK2 : Hid ((k.go j jv C).Ok N j jv hz C) := HOK.out.next rfl
          have HSA2 : Hid ((k.go j jv C).slot = slot ∧ (k.go j jv C).word = pk ∧ (k.go j jv C).who = who) := by
            have e := k.go_same j jv C
            exact ⟨e.slot.trans HSA.out.1, e.word.trans HSA.out.2.1, e.who.trans HSA.out.2.2⟩
          have hst := HHs.out.call HOK.out (by have := HLN.out; have := HLB.out; omega)
          rw [hcl, hev] at hst
          have HST := Lib.hid hst
          have HB9 := Lib.hid hB2
          have HP9 : Hid ((k.go j jv C).ph = 0) := hB2.ph
          have HV9 : Hid ((if (k.go j jv C).ph = 1 then (k.go j jv C).value else 0) = 0) := hB2.value0
          have HX9 : Hid (C[j]? = some (y)) := HY.out
          have HC9 : Hid (C.length = M) := HC.out
          have HL9 : Hid ((L ++ [(⟨k.who, 0, (j : Int), y, y, true⟩ : Ev)]).length ≤ 2 + 13 * (q + 1)) := by show _ ≤ _; rw [List.length_append]; have := HL2.out; simp only [List.length_cons, List.length_nil]; omega
          clear hst hcl hev hB2
          generalize k.go j jv C = k2 at HOK2 HSA2 HST HB9 HP9 HV9
          go_wp2_with fail
          refine HST.out.mono ?_
          rintro r w9 ⟨rfl, v9, hH9⟩
          have HH9 := Lib.hid hH9
          clear hH9 HST HHs
          rw [HP9.out]
          go_wp2_with fail
          refine (touched_some W.heap.size _ p c v9 C L who 0 (y) j LN (⟨k.who, 0, (j : Int), y, y, true⟩ : Ev) HLN.out HH9.out.mem (by have := HLB.out; omega) HSA.out.2.2 rfl rfl rfl HX9.out).mono ?_
          rintro r w10 ⟨rfl, hb10⟩
          have HH10 := Lib.hid (HH9.out.later hb10)
          clear hb10 HH9
          go_wp2_with fail
          refine (tavalue_at (0) HV9.out HH10.out.obj).mono ?_
          rintro r wr2 ⟨rfl, rfl⟩
          go_wp2_with fail
          go_roundw
          case rel => exact ⟨q + 1, 0, true, false, va, 2, v9, C, _, k2, by omega, by first | rfl | go_num, rfl, rfl, rfl, rfl, by first | rfl | go_num, HH10, HOK2, .inl ⟨rfl, rfl, by have := HNQ.out; omega, HB9.out⟩, HC9, HL9, HSA2⟩
          case measure => first | omega | (simp [intOf]; done) | (simp [intOf]; omega)
      · skip
        obtain ⟨y, hy⟩ : ∃ y, C.getD jv 0 = y := ⟨_, rfl⟩
        have HYD := Lib.hid hy
        have HY : Hid (C[jv]? = some y) := by rw [← hy]; exact getD_in (by rw [HC.out]; exact HvM.out)
        clear hy
        obtain ⟨hB2, hcl, hev⟩ := hB.s2 (j := j) (jv := jv) (hz := hz) (C := C)
        rw [HYD.out] at hev hB2
        clear hB
        obtain ⟨q0, q1, q2, q3⟩ := HA.out.later HH.out.below Hs.out
        go_wp2_with fail
        refine (count_any W.heap.size _ p c v C L HH.out.mem).mono ?_
        rintro r1 w' ⟨rfl, rfl⟩
        rw [HLN.out]
        go_wp2_with fail
        refine (hazard_at t s 0 0 N who hz _ hlay hw0 (by omega) HHZ.out).mono ?_
        rintro r w5 ⟨rfl, hb5⟩
        have HHs := Lib.hid (HH.out.later hb5)
        clear hb5 HH q0 q1 q2 q3
        obtain ⟨q0, q1, q2, q3⟩ := HA.out.later HHs.out.below Hs.out
        go_wp2_with fail
        refine (value_at t s 0 0 N slot jv _ hlay hs0 (by omega) HJV.out).mono ?_
        rintro r w6 ⟨rfl, hb6⟩
        have HHt := Lib.hid (HHs.out.later hb6)
        clear hb6 HHs q0 q1 q2 q3
        go_wp2_with fail
        refine (peek_in W.heap.size _ p c _ _ _ jv y HHt.out.mem HY.out).mono ?_
        rintro r wr2 ⟨rfl, rfl⟩
        have HHs := HHt
        clear HHt
        have HOK2 : Hid ((k.go j jv C).Ok N j jv hz C) := HOK.out.next rfl
        have HSA2 : Hid ((k.go j jv C).slot = slot ∧ (k.go j jv C).word = pk ∧ (k.go j jv C).who = who) := by
          have e := k.go_same j jv C
          exact ⟨e.slot.trans HSA.out.1, e.word.trans HSA.out.2.1, e.who.trans HSA.out.2.2⟩
        have hst := HHs.out.call HOK.out (by have := HLN.out; have := HLB.out; omega)
        rw [hcl, hev] at hst
        have HST := Lib.hid hst
        have HB9 := Lib.hid hB2
        have HP9 : Hid ((k.go j jv C).ph = 0) := hB2.ph
        have HV9 : Hid ((if (k.go j jv C).ph = 1 then (k.go j jv C).value else 0) = 0) := hB2.value0
        have HX9 : Hid (C[jv]? = some (y)) := HY.out
        have HC9 : Hid (C.length = M) := HC.out
        have HL9 : Hid ((L ++ [(⟨k.who, 0, (jv : Int), y, y, true⟩ : Ev)]).length ≤ 2 + 13 * (q + 1)) := by show _ ≤ _; rw [List.length_append]; have := HL2.out; simp only [List.length_cons, List.length_nil]; omega
        clear hst hcl hev hB2
        generalize k.go j jv C = k2 at HOK2 HSA2 HST HB9 HP9 HV9
        go_wp2_with fail
        refine HST.out.mono ?_
        rintro r w9 ⟨rfl, v9, hH9⟩
        have HH9 := Lib.hid hH9
        clear hH9 HST HHs
        rw [HP9.out]
        go_wp2_with fail
        refine (touched_some W.heap.size _ p c v9 C L who 0 (y) jv LN (⟨k.who, 0, (jv : Int), y, y, true⟩ : Ev) HLN.out HH9.out.mem (by have := HLB.out; omega) HSA.out.2.2 rfl rfl rfl HX9.out).mono ?_
        rintro r w10 ⟨rfl, hb10⟩
        have HH10 := Lib.hid (HH9.out.later hb10)
        clear hb10 HH9
        go_wp2_with fail
        refine (tavalue_at (0) HV9.out HH10.out.obj).mono ?_
        rintro r wr2 ⟨rfl, rfl⟩
        go_wp2_with fail
        go_roundw
        case rel => exact ⟨q + 1, 0, false, false, y, 3, v9, C, _, k2, by omega, by first | rfl | go_num, rfl, rfl, rfl, rfl, by first | rfl | go_num, HH10, HOK2, .inl ⟨rfl, rfl, by have := HNQ.out; omega, HB9.out⟩, HC9, HL9, HSA2⟩
        case measure => first | omega | (simp [intOf]; done) | (simp [intOf]; omega)
      · skip
        obtain ⟨y, hy⟩ : ∃ y, C.getD j 0 = y := ⟨_, rfl⟩
        have HYD := Lib.hid hy
        have HY : Hid (C[j]? = some y) := by rw [← hy]; exact getD_in (by rw [HC.out]; exact HjM.out)
        clear hy
        by_cases hw : y = pk
        · obtain ⟨hB2, hcl, hev⟩ := hB.s3y (j := j) (jv := jv) (hz := hz) (C := C) (by rw [HYD.out, HSA.out.2.1]; exact hw)
          rw [HSA.out.2.1] at hcl hev
          have hwb : (y != pk) = false := by simp [hw]
          clear hB hw
          obtain ⟨q0, q1, q2, q3⟩ := HA.out.later HH.out.below Hs.out
          go_wp2_with fail
          refine (count_any W.heap.size _ p c v C L HH.out.mem).mono ?_
          rintro r1 w' ⟨rfl, rfl⟩
          rw [HLN.out]
          go_wp2_with fail
          refine (hazard_at t s 0 0 N who hz _ hlay hw0 (by omega) HHZ.out).mono ?_
          rintro r w5 ⟨rfl, hb5⟩
          have HHs := Lib.hid (HH.out.later hb5)
          clear hb5 HH q0 q1 q2 q3
          obtain ⟨q0, q1, q2, q3⟩ := HA.out.later HHs.out.below Hs.out
          go_wp2_with fail
          refine (word_at t s 0 0 slot j _ HJ.out).mono ?_
          rintro r w6 ⟨rfl, hb6⟩
          have HHt := Lib.hid (HHs.out.later hb6)
          clear hb6 HHs q0 q1 q2 q3
          go_wp2_with fail
          refine (peek_in W.heap.size _ p c _ _ _ j y HHt.out.mem HY.out).mono ?_
          rintro r wr2 ⟨rfl, rfl⟩
          have HHs := HHt
          clear HHt
          obtain ⟨q0, q1, q2, q3, z0, z1, z2, z3, z4⟩ := AtCW9.mk' HA.out Hs.out HOW.out HHs.out.below
          clear q0 q1 q2 q3
          go_wp2_with fail
          refine (taken_any a4_0 a4_1 a4_2 a4_3 a4_4 _).mono ?_
          rintro r wx ⟨rfl, hbx⟩
          have HHt := Lib.hid (HHs.out.later hbx)
          clear hbx HHs z0 z1 z2 z3 z4
          go_wp2_with fail
          refine (HTA.out _).mono ?_
          rintro r wy ⟨rfl, hby⟩
          have HHs := Lib.hid (HHt.out.later hby)
          clear hby HHt
          have HOK2 : Hid ((k.go j jv C).Ok N j jv hz (C.set j (tkW pk))) := HOK.out.next (List.length_set ..)
          have HSA2 : Hid ((k.go j jv C).slot = slot ∧ (k.go j jv C).word = pk ∧ (k.go j jv C).who = who) := by
            have e := k.go_same j jv C
            exact ⟨e.slot.trans HSA.out.1, e.word.trans HSA.out.2.1, e.who.trans HSA.out.2.2⟩
          have hst := HHs.out.call HOK.out (by have := HLN.out; have := HLB.out; omega)
          rw [hcl, hev] at hst
          have HST := Lib.hid hst
          have HB9 := Lib.hid hB2
          have HP9 : Hid ((k.go j jv C).ph = 0) := hB2.ph
          have HV9 : Hid ((if (k.go j jv C).ph = 1 then (k.go j jv C).value else 0) = 0) := hB2.value0
          have HX9 : Hid ((C.set j (tkW pk))[j]? = some (tkW pk)) := by show _ = _; rw [List.getElem?_set_self (by rw [HC.out]; exact HjM.out)]
          have HC9 : Hid ((C.set j (tkW pk)).length = M) := by show _ = _; rw [List.length_set]; exact HC.out
          have HL9 : Hid ((L ++ [(⟨k.who, 2, (j : Int), pk, tkW pk, true⟩ : Ev)]).length ≤ 2 + 13 * (q + 1)) := by show _ ≤ _; rw [List.length_append]; have := HL2.out; simp only [List.length_cons, List.length_nil]; omega
          clear hst hcl hev hB2
          generalize k.go j jv C = k2 at HOK2 HSA2 HST HB9 HP9 HV9
          go_wp2_with fail
          refine HST.out.mono ?_
          rintro r w9 ⟨rfl, v9, hH9⟩
          have HH9 := Lib.hid hH9
          clear hH9 HST HHs
          rw [HP9.out]
          go_wp2_with fail
          refine (touched_some W.heap.size _ p c v9 (C.set j (tkW pk)) L who 2 (tkW pk) j LN (⟨k.who, 2, (j : Int), pk, tkW pk, true⟩ : Ev) HLN.out HH9.out.mem (by have := HLB.out; omega) HSA.out.2.2 rfl rfl rfl HX9.out).mono ?_
          rintro r w10 ⟨rfl, hb10⟩
          have HH10 := Lib.hid (HH9.out.later hb10)
          clear hb10 HH9
          go_wp2_with fail
          refine (tavalue_at (0) HV9.out HH10.out.obj).mono ?_
          rintro r wr2 ⟨rfl, rfl⟩
          go_wp2_with fail
          go_roundw
          case rel => exact ⟨q + 1, 0, false, false, va, 4, v9, (C.set j (tkW pk)), _, k2, by omega, by first | rfl | go_num, rfl, rfl, rfl, rfl, by first | rfl | go_num, HH10, HOK2, .inl ⟨rfl, rfl, by have := HNQ.out; omega, HB9.out⟩, HC9, HL9, HSA2⟩
          case measure => first | omega | (simp [intOf]; done) | (simp [intOf]; omega)
        · obtain ⟨hB2, hcl, hev⟩ := hB.s3n (j := j) (jv := jv) (hz := hz) (C := C) (by rw [HYD.out, HSA.out.2.1]; exact hw)
          rw [HYD.out] at hev
          have hwb : (y != pk) = true := by simp [hw]
          clear hB hw
          obtain ⟨q0, q1, q2, q3⟩ := HA.out.later HH.out.below Hs.out
          go_wp2_with fail
          refine (count_any W.heap.size _ p c v C L HH.out.mem).mono ?_
          rintro r1 w' ⟨rfl, rfl⟩
          rw [HLN.out]
          go_wp2_with fail
          refine (hazard_at t s 0 0 N who hz _ hlay hw0 (by omega) HHZ.out).mono ?_
          rintro r w5 ⟨rfl, hb5⟩
          have HHs := Lib.hid (HH.out.later hb5)
          clear hb5 HH q0 q1 q2 q3
          obtain ⟨q0, q1, q2, q3⟩ := HA.out.later HHs.out.below Hs.out
          go_wp2_with fail
          refine (word_at t s 0 0 slot j _ HJ.out).mono ?_
          rintro r w6 ⟨rfl, hb6⟩
          have HHt := Lib.hid (HHs.out.later hb6)
          clear hb6 HHs q0 q1 q2 q3
          go_wp2_with fail
          refine (peek_in W.heap.size _ p c _ _ _ j y HHt.out.mem HY.out).mono ?_
          rintro r wr2 ⟨rfl, rfl⟩
          have HHs := HHt
          clear HHt
          have HOK2 : Hid ((k.go j jv C).Ok N j jv hz C) := HOK.out.next rfl
          have HSA2 : Hid ((k.go j jv C).slot = slot ∧ (k.go j jv C).word = pk ∧ (k.go j jv C).who = who) := by
            have e := k.go_same j jv C
            exact ⟨e.slot.trans HSA.out.1, e.word.trans HSA.out.2.1, e.who.trans HSA.out.2.2⟩
          have hst := HHs.out.call HOK.out (by have := HLN.out; have := HLB.out; omega)
          rw [hcl, hev] at hst
          have HST := Lib.hid hst
          have HB9 := Lib.hid hB2
          have HP9 : Hid ((k.go j jv C).ph = 0) := hB2.ph
          have HV9 : Hid ((if (k.go j jv C).ph = 1 then (k.go j jv C).value else 0) = 0) := hB2.value0
          have HX9 : Hid (C[j]? = some (y)) := HY.out
          have HC9 : Hid (C.length = M) := HC.out
          have HL9 : Hid ((L ++ [(⟨k.who, 2, (j : Int), y, y, false⟩ : Ev)]).length ≤ 2 + 13 * (q + 1)) := by show _ ≤ _; rw [List.length_append]; have := HL2.out; simp only [List.length_cons, List.length_nil]; omega
          clear hst hcl hev hB2
          generalize k.go j jv C = k2 at HOK2 HSA2 HST HB9 HP9 HV9
          go_wp2_with fail
          refine HST.out.mono ?_
          rintro r w9 ⟨rfl, v9, hH9⟩
          have HH9 := Lib.hid hH9
          clear hH9 HST HHs
          rw [HP9.out]
          go_wp2_with fail
          refine (touched_some W.heap.size _ p c v9 C L who 2 (y) j LN (⟨k.who, 2, (j : Int), y, y, false⟩ : Ev) HLN.out HH9.out.mem (by have := HLB.out; omega) HSA.out.2.2 rfl rfl rfl HX9.out).mono ?_
          rintro r w10 ⟨rfl, hb10⟩
          have HH10 := Lib.hid (HH9.out.later hb10)
          clear hb10 HH9
          go_wp2_with fail
          refine (tavalue_at (0) HV9.out HH10.out.obj).mono ?_
          rintro r wr2 ⟨rfl, rfl⟩
          go_wp2_with fail
          go_roundw
          case rel => exact ⟨q + 1, 0, true, false, va, 4, v9, C, _, k2, by omega, by first | rfl | go_num, rfl, rfl, rfl, rfl, by first | rfl | go_num, HH10, HOK2, .inl ⟨rfl, rfl, by have := HNQ.out; omega, HB9.out⟩, HC9, HL9, HSA2⟩
          case measure => first | omega | (simp [intOf]; done) | (simp [intOf]; omega)
      · obtain ⟨hB2, hcl, hev⟩ := hB.s4y (j := j) (jv := jv) (hz := hz) (C := C)
        clear hB
        obtain ⟨q0, q1, q2, q3⟩ := HA.out.later HH.out.below Hs.out
        go_wp2_with fail
        refine (count_any W.heap.size _ p c v C L HH.out.mem).mono ?_
        rintro r1 w' ⟨rfl, rfl⟩
        rw [HLN.out]
        go_wp2_with fail
        refine (hazard_at t s 0 0 N who hz _ hlay hw0 (by omega) HHZ.out).mono ?_
        rintro r w5 ⟨rfl, hb5⟩
        have HHs := Lib.hid (HH.out.later hb5)
        clear hb5 HH q0 q1 q2 q3
        have HOK2 : Hid ((k.go j jv C).Ok N j jv hz (C.set hz 0)) := HOK.out.next (List.length_set ..)
        have HSA2 : Hid ((k.go j jv C).slot = slot ∧ (k.go j jv C).word = pk ∧ (k.go j jv C).who = who) := by
          have e := k.go_same j jv C
          exact ⟨e.slot.trans HSA.out.1, e.word.trans HSA.out.2.1, e.who.trans HSA.out.2.2⟩
        have hst := HHs.out.call HOK.out (by have := HLN.out; have := HLB.out; omega)
        rw [hcl, hev] at hst
        have HST := Lib.hid hst
        have HB9 := Lib.hid hB2
        have HP9 : Hid ((k.go j jv C).ph = 1) := hB2.1
        have HV9 : Hid ((if (k.go j jv C).ph = 1 then (k.go j jv C).value else 0) = va) := hB2.value1
        have HX9 : Hid ((C.set hz 0)[hz]? = some (0)) := by show _ = _; rw [List.getElem?_set_self (by rw [HC.out]; exact HzM.out)]
        have HC9 : Hid ((C.set hz 0).length = M) := by show _ = _; rw [List.length_set]; exact HC.out
        have HL9 : Hid ((L ++ [(⟨k.who, 1, (hz : Int), C.getD hz 0, 0, true⟩ : Ev)]).length ≤ 2 + 13 * (q + 1)) := by show _ ≤ _; rw [List.length_append]; have := HL2.out; simp only [List.length_cons, List.length_nil]; omega
        clear hst hcl hev hB2
        generalize k.go j jv C = k2 at HOK2 HSA2 HST HB9 HP9 HV9
        go_wp2_with fail
        refine HST.out.mono ?_
        rintro r w9 ⟨rfl, v9, hH9⟩
        have HH9 := Lib.hid hH9
        clear hH9 HST HHs
        rw [HP9.out]
        go_wp2_with fail
        refine (touched_some W.heap.size _ p c v9 (C.set hz 0) L who 1 (0) hz LN (⟨k.who, 1, (hz : Int), C.getD hz 0, 0, true⟩ : Ev) HLN.out HH9.out.mem (by have := HLB.out; omega) HSA.out.2.2 rfl rfl rfl HX9.out).mono ?_
        rintro r w10 ⟨rfl, hb10⟩
        have HH10 := Lib.hid (HH9.out.later hb10)
        clear hb10 HH9
        go_wp2_with fail
        refine (tavalue_at (va) HV9.out HH10.out.obj).mono ?_
        rintro r wr2 ⟨rfl, rfl⟩
        go_wp2_with fail
        go_roundw
        case rel => exact ⟨q + 1, 1, false, true, va, 5, v9, (C.set hz 0), _, k2, by omega, by first | rfl | go_num, rfl, rfl, rfl, rfl, by first | rfl | go_num, HH10, HOK2, .inr ⟨rfl, HB9.out⟩, HC9, HL9, HSA2⟩
        case measure => first | omega | (simp [intOf]; done) | (simp [intOf]; omega)
end Go.Proofs.Ytengomcanconfaa
