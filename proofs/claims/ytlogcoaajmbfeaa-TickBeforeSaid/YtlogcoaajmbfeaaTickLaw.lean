/-
  Contracts of what package stackyardlaw05 has beside its statements. No condition but that numbers fit their kinds.
-/
import Derived.Test.YtlogcoaajmbfeaaTickStep
import Derived.Test.YtlogcoaajmbfeaaFlat
import Derived.Test.YtlogcoaajmbfeaaBits
namespace Go.Proofs.Ytlogcoaajmbfeaa
open Go.RowKit
set_option linter.unusedVariables false

/-- A layout, right and small. -/
def ConfPost (w : World) (r : Ending) (w' : World) : Prop := ∃ t so d : Int, r = .returned (cf t 1 so d) ∧ 1 ≤ t ∧ t ≤ 4 ∧ 0 ≤ so ∧ so ≤ 4 ∧ 0 ≤ d ∧ d ≤ 3 ∧ Below w.heap.size w w'

set_option maxHeartbeats 1000000 in
theorem conf_at (a0 a2 a3 : Int) (w : World) :
    Calls Try.prog 9 #[.int .i64 a0, .int .i64 0, .int .i64 a2, .int .i64 a3] w fun r w' => r = .returned (cf (1 + a0 % 4) 1 (wrap64 ((IntKind.u64.wrap a2).tmod 5)) (a3 % 4)) ∧ Below w.heap.size w w' := by
  have e0 : bits .and .i64 a0 3 = a0 % 4 := by rw [show (3 : Int) = ((3 : Nat) : Int) from rfl, and_i64 a0 3 2 rfl (by decide)]; rfl
  have e3 : bits .and .i64 a3 3 = a3 % 4 := by rw [show (3 : Int) = ((3 : Nat) : Int) from rfl, and_i64 a3 3 2 rfl (by decide)]; rfl
  have ez : bits .and .i64 0 3 = 0 := by decide
  go_enter Try.func9, Try.ntmps9
  go_wp2
  exact bodyPost_ret (v := cf (1 + a0 % 4) 1 (wrap64 ((IntKind.u64.wrap a2).tmod 5)) (a3 % 4)) (by simp [results, Try.results9, go_sem]) rfl ⟨rfl, below_new (Below.refl _ _) _⟩

theorem src5 (a : Int) : 0 ≤ wrap64 ((IntKind.u64.wrap a).tmod 5) ∧ wrap64 ((IntKind.u64.wrap a).tmod 5) ≤ 4 := by
  have h0 : 0 ≤ IntKind.u64.wrap a := by rw [IntKind.wrap_u64]; omega
  rw [Int.tmod_eq_emod_of_nonneg h0]
  unfold wrap64
  omega
theorem src3 (a : Int) (h0 : 0 ≤ a) (h2 : a ≤ 2) : wrap64 ((IntKind.u64.wrap a).tmod 5) = a := by
  have h1 : IntKind.u64.wrap a = a := by rw [IntKind.wrap_u64]; omega
  rw [h1, Int.tmod_eq_emod_of_nonneg h0]
  unfold wrap64
  omega

theorem conf_any (a0 a2 a3 : Int) (w : World) :
    Calls Try.prog 9 #[.int .i64 a0, .int .i64 0, .int .i64 a2, .int .i64 a3] w (ConfPost w) :=
  (conf_at a0 a2 a3 w).mono fun r w' ⟨h, hb⟩ => ⟨_, _, _, h, by omega, by omega, (src5 a2).1, (src5 a2).2, by omega, by omega, hb⟩

set_option maxHeartbeats 1000000 in
theorem low_any (x : Int) (w : World) (h0 : 0 ≤ x) (h1 : x ≤ 18446744073709551615) :
    Calls Try.prog 33 #[u64 x] w fun r w' => r = .returned (i64 (low x)) ∧ w = w' := by
  by_cases hx : x ≤ 16777215
  · have e : low x = x := by unfold low; omega
    have E := Lib.hid e
    clear e
    go_enter Try.func33, Try.ntmps33
    go_wp2
    go_ret
    exact ⟨ret_i64' (by rw [E.out]), rfl⟩
  · have e : low x = 16777215 := by unfold low; omega
    have E := Lib.hid e
    clear e
    go_enter Try.func33, Try.ntmps33
    go_wp2
    go_ret
    exact ⟨ret_i64' (by rw [E.out]), rfl⟩

/-- A stamp that is right, or none. -/
def madeV (x y : Int) : Value := if 0 ≤ x ∧ x ≤ y ∧ y < 16777215 then .tuple #[st x y, i64 1] else .tuple #[st 0 0, i64 2]

set_option maxHeartbeats 1000000 in
theorem made_any (x y : Int) (w : World) :
    Calls Try.prog 34 #[i64 x, i64 y] w fun r w' => r = .returned (madeV x y) ∧ Below w.heap.size w w' := by
  by_cases h : 0 ≤ x ∧ x ≤ y ∧ y < 16777215
  · have hr : rightB x y = true := by simp [rightB, h]
    have hR := fun W => right_any x y W
    rw [hr] at hR
    have HR := Lib.hid hR
    have hm : madeV x y = .tuple #[st x y, i64 1] := if_pos h
    rw [hm]
    clear hR hr hm h
    go_enter Try.func34, Try.ntmps34
    go_wp2_with fail
    refine (HR.out _).mono ?_
    rintro r w1 ⟨rfl, hb1⟩
    have hA : At2 (w.heap.size + 1) x y w1 := ⟨by rw [hb1.cell (p := ⟨w.heap.size + 1, 0, none⟩) (by simp)]; simp [go_sem], by rw [hb1.cell (p := ⟨w.heap.size + 1, 1, none⟩) (by simp)]; simp [go_sem]⟩
    obtain ⟨hc, hf⟩ := bcell hb1
    obtain ⟨a0, a1⟩ := hA
    go_wp2
    have hB := Lib.hid (below_step (below_new (below_new (Below.refl _ _) _) _) hb1)
    have k0 : (w1.cell? ⟨w.heap.size, 0, none⟩).isSome = true := by rw [hc _ _ (by simp; omega)]; simp [go_sem]
    have k1 : (w1.cell? ⟨w.heap.size, 1, none⟩).isSome = true := by rw [hc _ _ (by simp; omega)]; simp [go_sem]
    exact bodyPost_ret (v := .tuple #[st x y, i64 1]) (by simp [results, Try.results34, go_sem, k0, k1]) rfl ⟨rfl, below_set (below_set hB.out (by simp) _) (by simp) _⟩
  · have hr : rightB x y = false := by simp only [rightB, decide_eq_false_iff_not]; exact h
    have hR := fun W => right_any x y W
    rw [hr] at hR
    have HR := Lib.hid hR
    have hm : madeV x y = .tuple #[st 0 0, i64 2] := if_neg h
    rw [hm]
    clear hR hr hm h
    go_enter Try.func34, Try.ntmps34
    go_wp2_with fail
    refine (HR.out _).mono ?_
    rintro r w1 ⟨rfl, hb1⟩
    obtain ⟨hc, hf⟩ := bcell hb1
    go_wp2
    have hB := Lib.hid (below_step (below_new (below_new (Below.refl _ _) _) _) hb1)
    have k0 : (w1.cell? ⟨w.heap.size, 0, none⟩).isSome = true := by rw [hc _ _ (by simp; omega)]; simp [go_sem]
    have k1 : (w1.cell? ⟨w.heap.size, 1, none⟩).isSome = true := by rw [hc _ _ (by simp; omega)]; simp [go_sem]
    exact bodyPost_ret (v := .tuple #[st 0 0, i64 2]) (by simp [results, Try.results34, go_sem, k0, k1]) rfl ⟨rfl, below_set (below_set hB.out (by simp) _) (by simp) _⟩

theorem lay21 : Lay 2 1 2 := ⟨rfl, by omega, by omega, by omega, by omega, by omega, by omega, by omega⟩

theorem Own.stepT {w0 w w' : World} {b p c : Nat} {v v' : Value} {k' : Tk} {C C' : List Int} {L L' : List Ev} (h : Own w0 w p c v C L) (s : Stepped w0.heap.size w w' b p c v v' k' C' L') (hb : w0.heap.size ≤ b) : Own w0 w' p c v' C' L' :=
  ⟨s.mem, s.size, below_keep h.below s.keep h.size (fun i hi => by
    rcases hi with rfl | hi
    · exact hb
    · exact (h.mem.foot i hi).1)⟩

/-- A layout in a block. -/
structure AtC (w : World) (b : Nat) (t s so d : Int) : Prop where
  c0 : w.cell? ⟨b, 0, none⟩ = some (i64 t)
  c1 : w.cell? ⟨b, 1, none⟩ = some (i64 s)
  c2 : w.cell? ⟨b, 2, none⟩ = some (i64 so)
  c3 : w.cell? ⟨b, 3, none⟩ = some (i64 d)

theorem AtC.keep {w w' : World} {b : Nat} {t s so d : Int} {T : Nat → Prop} (h : AtC w b t s so d) (k : Keep T w w') (hn : ¬ T b) : AtC w' b t s so d :=
  ⟨k.cell h.c0 hn, k.cell h.c1 hn, k.cell h.c2 hn, k.cell h.c3 hn⟩
theorem AtC.later {w w' : World} {b n : Nat} {t s so d : Int} (h : AtC w b t s so d) (k : Below n w w') (hn : b < n) : AtC w' b t s so d :=
  ⟨(k.cell (p := ⟨b, 0, none⟩) hn).trans h.c0, (k.cell (p := ⟨b, 1, none⟩) hn).trans h.c1, (k.cell (p := ⟨b, 2, none⟩) hn).trans h.c2, (k.cell (p := ⟨b, 3, none⟩) hn).trans h.c3⟩
theorem AtC.made (w : World) (t s so d : Int) : AtC (w.alloc (.cells #[.int .i64 t, .int .i64 s, .int .i64 so, .int .i64 d] 26)) w.heap.size t s so d :=
  ⟨World.cell?_alloc_new w _ _ 0, World.cell?_alloc_new w _ _ 1, World.cell?_alloc_new w _ _ 2, World.cell?_alloc_new w _ _ 3⟩

theorem stp_count (nb : Nat) (k : Tk) (C : List Int) (now x : Int) (hp : k.ph = 0) (hso : k.so = 0) (hx : C.getD nb 0 = x) (h0 : 0 ≤ x) (h1 : x < 16777215) :
    stp nb k C now = ({ k with steps := k.steps + 1, ph := 1, lo := x, hi := x }, C.set nb (x + 1), some ⟨k.who, 3, nb, x, x + 1, true⟩) := by
  have hl : low x = x := by unfold low; omega
  have ha : add64 x 1 = x + 1 := by unfold add64; rw [IntKind.wrap_u64]; omega
  unfold stp
  rw [if_pos hp, if_pos hso, hx, hl, ha, fin_yes _ ⟨h0, Int.le_refl _, h1⟩]

/-- What a call itself begun: it shares no block with cells that it made ahead. -/
theorem Own.apart {w0 w : World} {p c : Nat} {v : Value} {C : List Int} {L : List Ev} (h : Own w0 w p c v C L) {b : Nat} (hb : w.heap.size ≤ b) : ¬ Foot p c v b :=
  fun hf => by have := (h.mem.foot b hf).2; omega

theorem getD_set' (C : List Int) (i j : Nat) (x : Int) : (C.set i x).getD j 0 = if i = j ∧ j < C.length then x else C.getD j 0 := by
  rw [List.getD_eq_getElem?_getD, List.getElem?_set, List.getD_eq_getElem?_getD]
  by_cases h : i = j
  · subst h
    by_cases h2 : i < C.length
    · simp [h2]
    · simp [h2]
  · simp [h]

set_option maxHeartbeats 1000000 in
theorem head5_any (w : World) : Calls Try.prog 8 #[] w fun r w' => r = .returned (.bool true) ∧ Below w.heap.size w w' := by
  have hA := AtC.made w 2 1 0 0
  have hB0 : Below w.heap.size w (w.alloc (.cells #[.int .i64 2, .int .i64 1, .int .i64 0, .int .i64 0] 26)) := below_new (Below.refl _ _) _
  have hs0 : w.heap.size + 1 = (w.alloc (.cells #[.int .i64 2, .int .i64 1, .int .i64 0, .int .i64 0] 26)).heap.size := by simp
  have HA := Lib.hid hA
  have HB0 := Lib.hid hB0
  have Hs0 := Lib.hid hs0
  clear hA hB0 hs0
  go_enter Try.func8, Try.ntmps8
  go_wp2_with fail
  generalize hW : w.alloc (.cells #[.int .i64 2, .int .i64 1, .int .i64 0, .int .i64 0] 26) = W at HA HB0 Hs0 ⊢
  clear hW
  refine (ccells_any 2 1 0 0 2 _ lay21).mono ?_
  rintro r w1 ⟨rfl, hb1⟩
  go_wp2_with fail
  refine (new_nat W.heap.size 8 8 _ hb1.size (by decide) (.inl rfl)).mono ?_
  rintro r w2 ⟨p, c, rfl, hM2, hb2, hp, hc⟩
  have hO := Own.made hb1 hM2 hb2
  clear hM2 hb2 hb1 hp hc
  go_wp2_with fail
  go_loopw [3] (fun i wr => ∃ (n : Nat) (v : Value) (C : List Int) (L : List Ev), n ≤ 3 ∧ i = .int .i64 n ∧ Own W wr p c v C L ∧ Hid (L.length = n) ∧ Hid (C.length = 8) ∧ Hid (C.getD 6 0 = n)) (fun i _ => 3 - (intOf i).toNat)
  case atStart => exact ⟨0, _, _, _, by omega, rfl, hO, rfl, rfl, rfl⟩
  case round =>
    clear hO
    obtain ⟨n, v, C, L, hn, rfl, hO, hL, hC, hx⟩ := hrel
    have hA := HA.out.later hO.below (by have := Hs0.out; omega)
    obtain ⟨a0, a1, a2, a3⟩ := hA
    rcases Nat.lt_or_ge n 3 with hlt | hge
    · go_wp2_with fail
      refine (tnew_any _ 2 1 0 0 1).mono ?_
      rintro r w3 ⟨b, rfl, hT3, hb3, hbb⟩
      have ha := hO.apart hbb
      replace hbb := Nat.le_trans hO.size hbb
      replace hO := hO.later hb3
      go_wp2_with fail
      have hok : Tk.Ok (tk0 2 1 0 0 1) 6 2 C := ⟨lay21, rfl, hC.out, by decide, by decide, by decide, by decide, by decide, by decide, by decide, by decide, by decide, by decide, by decide, by decide, fun h => by cases h⟩
      have hst := step_any W.heap.size w3 b p c v C L (tk0 2 1 0 0 1) 6 2 9 hok (by decide) hT3 hO.mem ha hO.size (by rw [hL.out]; omega)
      rw [stp_count 6 (tk0 2 1 0 0 1) C 9 n rfl rfl hx.out (by omega) (by omega)] at hst
      have HST := Lib.hid hst
      clear hst hok
      refine HST.out.mono ?_
      rintro r w4 ⟨rfl, v4, hS⟩
      replace hO := hO.stepT hS hbb
      have hT4 := hS.tk
      have HT4 := Lib.hid hT4
      clear hS hT4 hT3 hb3 ha HST
      go_wp2_with fail
      refine (stamp_any _ b _ HT4.out).mono ?_
      rintro r w5 ⟨rfl, hb5⟩
      replace hO := hO.later hb5
      clear hb5
      go_wp2_with fail
      go_roundw
      case rel => exact ⟨n + 1, v4, _, _, by omega, by go_num, hO, by show _ = _; rw [List.length_append, hL.out]; rfl, by show _ = _; rw [List.length_set]; exact hC.out, by show _ = _; rw [getD_set', if_pos ⟨rfl, by rw [hC.out]; decide⟩]; rfl⟩
      case measure => simp [intOf]; omega
    · obtain rfl : n = 3 := by omega
      go_wp2_with fail
      refine (most_any _ 2 1 0 0 (by decide) (by decide) (by decide) (by decide) (by decide) (by decide)).mono ?_
      rintro r w5 ⟨rfl, hb5⟩
      have hA5 := HA.out.later (hO.later hb5).below (by have := Hs0.out; omega)
      replace hO := hO.later hb5
      clear hb5 a0 a1 a2 a3
      obtain ⟨a0, a1, a2, a3⟩ := hA5
      have q : (most 2 0 0 == 1) = true := by decide
      go_wp2_with fail
      refine (cnum_0 2 1 0 0 2 6 _ lay21 rfl).mono ?_
      rintro r w6 ⟨rfl, hb6⟩
      replace hO := hO.later hb6
      clear hb6 a0 a1 a2 a3
      go_wp2_with fail
      refine (peek_in _ _ p c _ _ _ 6 3 hO.mem (by rw [getD_at (by rw [hC.out]; decide), hx.out]; rfl)).mono ?_
      rintro r w' ⟨rfl, rfl⟩
      have hbf := Lib.hid (below_step' HB0.out hO.below (by have := Hs0.out; omega))
      clear hO
      go_wp2
      go_ret
      exact ⟨rfl, hbf.out⟩

end Go.Proofs.Ytlogcoaajmbfeaa
