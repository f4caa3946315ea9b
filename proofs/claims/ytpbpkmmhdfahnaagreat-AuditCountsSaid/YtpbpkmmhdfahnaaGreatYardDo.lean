/-
  The contract of a move that is done to a yard. No condition but that numbers fit their kinds.
-/
import Derived.Test.YtpbpkmmhdfahnaaGreatYardTells
namespace Go.Proofs.YtpbpkmmhdfahnaaGreat
open Go.RowKit
set_option linter.unusedVariables false

/-- Whose move it is. -/
def Mv.w (x : Mv) (t : Int) : Int := x.who % 65536 % t
/-- What a move asks for. -/
def Mv.k (x : Mv) : Int := x.kind % 8
/-- A thread's step. -/
def isStep (B : YB) (N : Nat) (Y Y' : Yd) (who : Int) : Prop := ∃ (k : Nat) (T : Wk) (i : Nat) (z : Int), (k : Int) = who ∧ Y.ts[k]? = some (some (T, i)) ∧ T.ask Y.C z ∧ Y' = Y.step (plOf B N k) k T i z
/-- What is done to a yard, call by call. -/
inductive YHow (B : YB) (N : Nat) (Y : Yd) : Yd → Prop
  | rest : YHow B N Y Y
  | call (w : Nat) (take : Bool) (kd e x s : Int) (hw : Y.ts[w]? = some none) (he : e = 0 ∨ e = 1) (hk : kdI take = kd) : YHow B N Y (Y.call w kd e x s (wkB B N w take e x s))
  | step (w : Nat) (T : Wk) (i : Nat) (z : Int) (hw : Y.ts[w]? = some (some (T, i))) (ha : T.ask Y.C z) : YHow B N Y (Y.step (plOf B N w) w T i z)
  | pass (n : Int) (hn : 0 < n) : YHow B N Y (Y.pass n)
/-- What comes of a move. -/
structure DoIs (B : YB) (N : Nat) (x : Mv) (Y Y' : Yd) : Prop where
  mv : YMv (plOf B N) Y Y'
  how : YHow B N Y Y'
  log : Y'.L = Y.L ∨ (x.k ≠ 0 ∧ x.k ≠ 6 ∧ isStep B N Y Y' (if x.k = 7 then x.who else x.w B.t))

theorem and_7' (a : Int) : bits .and .i64 a 7 = a % 8 := by rw [show (7 : Int) = ((7 : Nat) : Int) from rfl, and_i64 a 7 3 rfl (by decide)]; rfl

section
variable {W w w' : World} {l : List Thing} {B : YB} {Y : Yd} {J : Nat → Nat} {v vd : Value} {X : List Value}

theorem YStay.go {l l' : List Thing} {k : Nat} {J' : Nat → Nat} {a : Wk × Nat} {Y' : Yd} (h : YStay l l' (J k)) (hk : Y.ts[k]? = some (some a)) (ht : ∀ (q : Nat) (b : Wk × Nat), Y'.ts[q]? = some (some b) → ∃ b', Y.ts[q]? = some (some b')) : YGo Y Y' l l' J J :=
  ⟨h.1, fun j A hj hf => h.2 j A hf.1 (fun e => hf.2 k a hk e.symm) hj, fun j _ hf => ⟨hf.1, fun q b hq => by
    obtain ⟨b', hb'⟩ := ht q b hq
    exact hf.2 q b' hb'⟩⟩
theorem step_ts {P : Pl} {k i : Nat} {T : Wk} {z : Int} (hk : Y.ts[k]? = some (some (T, i))) : ∀ (q : Nat) (b : Wk × Nat), (Y.step P k T i z).ts[q]? = some (some b) → ∃ b', Y.ts[q]? = some (some b') := fun q b hq => by
  have hq' : (if (T.step P Y.C Y.now z).ph = 0 then Y.ts.set k (some (T.step P Y.C Y.now z, i)) else Y.ts.set k none)[q]? = some (some b) := hq
  split at hq'
  · rcases yset hq' with ⟨rfl, _, _⟩ | ⟨_, h⟩
    · exact ⟨_, hk⟩
    · exact ⟨_, h⟩
  · rcases yset hq' with ⟨_, h, _⟩ | ⟨_, h⟩
    · cases h
    · exact ⟨_, h⟩
theorem pass_go {l l' : List Thing} {n : Int} (hl : l'.length = l.length) (hk : ∀ j A, 4 ≤ j → l[j]? = some A → l'[j]? = some A) : YGo Y (Y.pass n) l l' J J :=
  ⟨by rw [hl]; exact Nat.le_refl _, fun j A hj hf => hk j A hf.1 hj, fun _ _ h => h⟩

/-- A step that may not be. -/
theorem ystep_out (h : YAt W w l B Y J v vd X) (k : Int) (hk : k < 0 ∨ B.t ≤ k) :
    Calls Tryz.prog 43 #[pt B.yb, i64 k] w fun r w' => r = .returned (.bool false) ∧ w = w' := by
  have hB := busy_out h k hk
  have HB := Lib.hid hB
  clear hB h
  go_enter Tryz.func43, Tryz.ntmps43
  go_wp2_with fail
  refine HB.out.mono ?_
  rintro r w' ⟨rfl, rfl⟩
  go_wp2
  go_ret
  exact ⟨rfl, rfl⟩
theorem ystep_none (h : YAt W w l B Y J v vd X) (k : Nat) (hk : Y.ts[k]? = some none) :
    Calls Tryz.prog 43 #[pt B.yb, i64 k] w fun r w' => r = .returned (.bool false) ∧ w = w' := by
  have hkT : k < B.T := by have := (List.getElem?_eq_some_iff.1 hk).1; have := h.tl; omega
  have hB := busy_in h k hkT _ hk
  simp only [Option.isSome_none] at hB
  have HB := Lib.hid hB
  clear hB h hk
  go_enter Tryz.func43, Tryz.ntmps43
  go_wp2_with fail
  refine HB.out.mono ?_
  rintro r w' ⟨rfl, rfl⟩
  go_wp2
  go_ret
  exact ⟨rfl, rfl⟩

/-- A step of whoever. -/
theorem ystep_who {N n : Nat} (hc : YCf B N) (h : YH W w l B Y J) (ho : YOk (plOf B N) B.T n Y) (hn : n < 1000000) (who : Int) :
    Calls Tryz.prog 43 #[pt B.yb, i64 who] w fun r w' => ∃ b l' J' Y', r = .returned (.bool b) ∧ YH W w' l' B Y' J' ∧ YGo Y Y' l l' J J' ∧ ((b = false ∧ Y' = Y ∧ (∀ k : Nat, (k : Int) = who → ∀ a, Y.ts[k]? ≠ some (some a))) ∨ (b = true ∧ isStep B N Y Y' who)) := by
  obtain ⟨v, vd, X, h⟩ := h
  have hT := h.hT
  have hlen := ho.len
  by_cases hw : who < 0 ∨ B.t ≤ who
  · refine (ystep_out h who hw).mono ?_
    rintro r w' ⟨rfl, rfl⟩
    exact ⟨false, l, J, Y, rfl, ⟨v, vd, X, h⟩, YGo.refl _ _ _, .inl ⟨rfl, rfl, fun k hk a ha => by have := (List.getElem?_eq_some_iff.1 ha).1; omega⟩⟩
  · obtain ⟨k, rfl⟩ : ∃ k : Nat, who = k := ⟨who.toNat, by omega⟩
    cases hq : Y.ts[k]? with
    | none =>
      rw [List.getElem?_eq_none_iff] at hq
      omega
    | some a =>
      cases a with
      | none =>
        refine (ystep_none h k hq).mono ?_
        rintro r w' ⟨rfl, rfl⟩
        exact ⟨false, l, J, Y, rfl, ⟨v, vd, X, h⟩, YGo.refl _ _ _, .inl ⟨rfl, rfl, fun k' hk' a ha => by
          obtain rfl : k' = k := by omega
          rw [hq] at ha
          cases ha⟩⟩
      | some a =>
        refine (ystep_any h ho hn hq).mono ?_
        rintro r w' ⟨rfl, z, hz, l', hl', hs⟩
        exact ⟨true, l', J, _, rfl, hl', YStay.go (J' := J) hs hq (step_ts hq), .inr ⟨rfl, k, a.1, a.2, z, rfl, hq, hz, rfl⟩⟩

/-- A call of whoever there is. -/
theorem ycall_who {N n : Nat} (hc : YCf B N) (h : YH W w l B Y J) (ho : YOk (plOf B N) B.T n Y) (hn : n < 1000000) (hC : (Y.C.length : Int) = 2 * N + 2 * B.t) (k : Nat) (hk : k < B.T) (take : Bool) {kd : Int} (hkd : kdI take = kd) (e x s : Int) (he : e = 0 ∨ e = 1) (x0 : 0 ≤ x) (x1 : x ≤ 18446744073709551615) :
    Calls Tryz.prog 40 #[pt B.yb, i64 k, callV kd e x s] w fun r w' => ∃ l' J' Y', YH W w' l' B Y' J' ∧ YGo Y Y' l l' J J' ∧ YMv (plOf B N) Y Y' ∧ ((r = .returned (i64 2) ∧ Y' = Y ∧ ∃ a, Y.ts[k]? = some (some a)) ∨ (r = .returned (i64 0) ∧ Y.ts[k]? = some none ∧ Y' = Y.call k kd e x s (wkB B N k take e x s))) := by
  obtain ⟨v, vd, X, h⟩ := h
  have hT := h.hT
  have hlen := ho.len
  have hm := ho.most
  cases hq : Y.ts[k]? with
  | none =>
    rw [List.getElem?_eq_none_iff] at hq
    omega
  | some a =>
    cases a with
    | some a =>
      refine (ycall_busy h k a hq kd e x s ⟨by cases take; exact .inl hkd.symm; exact .inr hkd.symm, he⟩).mono ?_
      rintro r w' ⟨rfl, hb⟩
      exact ⟨l, J, Y, ⟨v, vd, X, h.later hb⟩, YGo.refl _ _ _, .rest, .inl ⟨rfl, rfl, a, rfl⟩⟩
    | none =>
      refine (ycall_yes hc h take hkd e x s he hq ho.nds (by omega)).mono ?_
      rintro r w' ⟨rfl, l', J', hl', hg⟩
      obtain ⟨m0, m1⟩ := hc.own hT hk
      obtain ⟨k1, k2⟩ := wk0_ok (C := Y.C) (so := B.so) (d := B.d) (e := e) (x := x) (start := s) (nb := 2 * N + B.T) (h0 := 2 * N) (hw := 2 * N + k) take hc.lay hC (by omega) (by omega) (by omega) (show (0 : Int) ≤ k by omega) (by omega) rfl m0 m1 hc.o0 hc.o1 hc.d0 hc.d1 he x0 x1
      exact ⟨l', J', _, hl', hg, .call k kd e x s _ hq k1 k2 (wk0_by take) (by cases take <;> rfl) ⟨by cases take; exact .inl hkd.symm; exact .inr hkd.symm, he⟩, .inr ⟨rfl, rfl, rfl⟩⟩

set_option maxHeartbeats 1000000 in
/-- The call of a move. -/
theorem mvcall_any (x : Mv) (w : World) (kd e : Int) (hk : kdI x.take = kd) (he : kdI x.right = e) :
    Calls Tryz.prog 41 #[x.v] w fun r w' => r = .returned (callV kd e x.value x.start) ∧ Below w.heap.size w w' := by
  subst hk he
  have HB0 : Hid (Below w.heap.size w ((w.alloc (.cells #[.int .i64 x.kind, .int .i64 x.who, .bool x.take, .bool x.right, .int .u64 x.value, .int .i64 x.start, .int .i64 x.time] 68)).alloc (.cells #[.int .i64 0, .int .i64 0, .int .u64 0, .int .i64 0] 47))) := Lib.hid (below_new (below_new (Below.refl w.heap.size w) _) _)
  have HC : Hid (IsObj ((w.alloc (.cells #[.int .i64 x.kind, .int .i64 x.who, .bool x.take, .bool x.right, .int .u64 x.value, .int .i64 x.start, .int .i64 x.time] 68)).alloc (.cells #[.int .i64 0, .int .i64 0, .int .u64 0, .int .i64 0] 47)) (w.heap.size + 1) [i64 0, i64 0, u64 0, i64 0]) := Lib.hid (by have h := IsObj.made (w.alloc (.cells #[.int .i64 x.kind, .int .i64 x.who, .bool x.take, .bool x.right, .int .u64 x.value, .int .i64 x.start, .int .i64 x.time] 68)) [i64 0, i64 0, u64 0, i64 0] 47; simp only [World.size_alloc] at h; exact h)
  unfold Mv.v
  go_enter Tryz.func41, Tryz.ntmps41
  go_wp2_with fail
  generalize ((w.alloc (.cells #[.int .i64 x.kind, .int .i64 x.who, .bool x.take, .bool x.right, .int .u64 x.value, .int .i64 x.start, .int .i64 x.time] 68)).alloc (.cells #[.int .i64 0, .int .i64 0, .int .u64 0, .int .i64 0] 47)) = w0 at HC HB0 ⊢
  refine (make_at x.take x.right x.value x.start _ _ _ rfl rfl).mono ?_
  rintro r w2 ⟨rfl, hb⟩
  have HB1 := Lib.hid (below_step HB0.out hb)
  have HO1 := Lib.hid (HC.out.later hb)
  clear hb HB0 HC
  have q0 := HO1.out.at' 0 _ rfl
  have q1 := HO1.out.at' 1 _ rfl
  have q2 := HO1.out.at' 2 _ rfl
  have q3 := HO1.out.at' 3 _ rfl
  have f0 := HO1.out.fz 0
  have f1 := HO1.out.fz 1
  have f2 := HO1.out.fz 2
  have f3 := HO1.out.fz 3
  go_wp2
  have HO5 := Lib.hid ((((HO1.out.set 0 (i64 (kdI x.take))).set 1 (i64 (kdI x.right))).set 2 (u64 x.value)).set 3 (i64 x.start))
  have HB5 : Below w.heap.size w ((((w2.setCell ⟨w.heap.size + 1, 0, none⟩ (i64 (kdI x.take))).setCell ⟨w.heap.size + 1, 1, none⟩ (i64 (kdI x.right))).setCell ⟨w.heap.size + 1, 2, none⟩ (u64 x.value)).setCell ⟨w.heap.size + 1, 3, none⟩ (i64 x.start)) := below_set (below_set (below_set (below_set HB1.out (by simp) _) (by simp) _) (by simp) _) (by simp) _
  generalize ((((w2.setCell ⟨w.heap.size + 1, 0, none⟩ (i64 (kdI x.take))).setCell ⟨w.heap.size + 1, 1, none⟩ (i64 (kdI x.right))).setCell ⟨w.heap.size + 1, 2, none⟩ (u64 x.value)).setCell ⟨w.heap.size + 1, 3, none⟩ (i64 x.start)) = w5 at HO5 HB5 ⊢
  have r0 := HO5.out.at' 0 _ rfl
  have r1 := HO5.out.at' 1 _ rfl
  have r2 := HO5.out.at' 2 _ rfl
  have r3 := HO5.out.at' 3 _ rfl
  exact bodyPost_ret (v := callV (kdI x.take) (kdI x.right) x.value x.start) (by simp [results, Tryz.results41, go_sem, r0, r1, r2, r3]) rfl ⟨rfl, HB5⟩

theorem AtMv.v8 (x : Mv) : x.v = .agg #[.int .i64 x.kind, .int .i64 x.who, .bool x.take, .bool x.right, .int .u64 x.value, .int .i64 x.start, .int .i64 x.time] := rfl

set_option maxHeartbeats 4000000 in
theorem do_any {N n : Nat} (hc : YCf B N) (h : YH W w l B Y J) (ho : YOk (plOf B N) B.T n Y) (hn : n < 1000000) (hC : (Y.C.length : Int) = 2 * N + 2 * B.t) (hT : (B.T : Int) = B.t) (x : Mv) (x0 : 0 ≤ x.value) (x1 : x.value ≤ 18446744073709551615) :
    Calls Tryz.prog 19 #[x.v, pt B.yb, i64 B.t] w fun r w' => r = .returned (.tuple #[]) ∧ ∃ l' J' Y', DoIs B N x Y Y' ∧ YH W w' l' B Y' J' ∧ YGo Y Y' l l' J J' := by
  have t1 := hc.lay.t1
  have t2 := hc.lay.t2
  have hk8 : 0 ≤ x.k ∧ x.k ≤ 7 := ⟨by unfold Mv.k; omega, by unfold Mv.k; omega⟩
  have hq : bits .and .i64 x.kind 7 = x.k := and_7' x.kind
  obtain ⟨u, hu, u0, u1⟩ : ∃ u, bits .and .i64 x.who 65535 = u ∧ 0 ≤ u ∧ u ≤ 65535 := ⟨_, and_ffff x.who, by omega, by omega⟩
  obtain ⟨th, hth, hthT, hthw⟩ : ∃ th : Nat, u.tmod B.t = (th : Int) ∧ th < B.T ∧ (th : Int) = x.w B.t := by
    refine ⟨(u % B.t).toNat, ?_, ?_, ?_⟩
    · rw [Int.tmod_eq_emod_of_nonneg u0]
      have := Int.emod_nonneg u (show B.t ≠ 0 by omega)
      omega
    · have := Int.emod_nonneg u (show B.t ≠ 0 by omega)
      have := Int.emod_lt_of_pos u (show 0 < B.t by omega)
      omega
    · have h1 : u = x.who % 65536 := by rw [← hu]; exact and_ffff x.who
      have := Int.emod_nonneg u (show B.t ≠ 0 by omega)
      unfold Mv.w
      rw [← h1]
      omega
  obtain ⟨m, hm, m0, m1⟩ : ∃ u, bits .and .i64 x.time 65535 = u ∧ 0 ≤ u ∧ u ≤ 65535 := ⟨_, and_ffff x.time, by omega, by omega⟩
  have hB0 := below_new (Below.refl w.heap.size w) (.cells #[i64 x.kind, i64 x.who, .bool x.take, .bool x.right, u64 x.value, i64 x.start, i64 x.time] 68)
  have HY := Lib.hid (h.later hB0)
  have HO := Lib.hid ho
  have HTW := Lib.hid hthw
  clear h hB0 ho hthw
  rw [AtMv.v8]
  rcases (by omega : x.k = 0 ∨ x.k = 6 ∨ x.k = 7 ∨ (x.k ≠ 0 ∧ x.k ≠ 6 ∧ x.k ≠ 7)) with hk | hk | hk | ⟨hk1, hk2, hk3⟩
  · rw [hk] at hq
    go_enter Tryz.func19, Tryz.ntmps19
    go_wp2_with fail
    refine (mvcall_any x _ _ _ rfl rfl).mono ?_
    rintro r w1 ⟨rfl, hb⟩
    have HY1 := Lib.hid (HY.out.later hb)
    clear hb HY
    go_wp2_with fail
    refine (ycall_who hc HY1.out HO.out hn hC th hthT x.take rfl (kdI x.right) x.value x.start (by cases x.right; exact .inl rfl; exact .inr rfl) x0 x1).mono ?_
    rintro r w2 ⟨l', J', Y', hl', hg, hmv, h3⟩
    have HL := Lib.hid hl'
    have HG := Lib.hid hg
    have HM := Lib.hid hmv
    clear hl' hg hmv HY1
    rcases h3 with ⟨rfl, rfl, _⟩ | ⟨rfl, hno, rfl⟩
    · go_wp2
      go_end0
      exact ⟨rfl, l', J', _, ⟨HM.out, .rest, .inl rfl⟩, HL.out, HG.out⟩
    · have HNO := Lib.hid hno
      clear hno
      go_wp2
      go_end0
      exact ⟨rfl, l', J', _, ⟨HM.out, .call th x.take _ (kdI x.right) x.value x.start HNO.out (by cases x.right; exact .inl rfl; exact .inr rfl) rfl, .inl rfl⟩, HL.out, HG.out⟩
  · rw [hk] at hq
    obtain ⟨v, vd, X, h⟩ := HY.out
    have n0 := HO.out.now0
    have n1 := HO.out.now1
    have HA := Lib.hid h
    clear h
    rcases (by omega : m ≤ 0 ∨ 0 < m) with hm0 | hm0
    · skip
      go_enter Tryz.func19, Tryz.ntmps19
      go_wp2_with fail
      refine (ypass_rest HA.out m hm0).mono ?_
      rintro r w1 ⟨rfl, rfl⟩
      go_wp2
      go_end0
      exact ⟨rfl, l, J, Y, ⟨.rest, .rest, .inl rfl⟩, HY.out, YGo.refl _ _ _⟩
    · skip
      go_enter Tryz.func19, Tryz.ntmps19
      go_wp2_with fail
      refine (ypass_any HA.out m hm0 n0 n1).mono ?_
      rintro r w1 ⟨rfl, l', hl', hle, hke⟩
      have HL := Lib.hid hl'
      have HG : Hid (YGo Y (Y.pass m) l l' J J) := Lib.hid (pass_go hle hke)
      clear hl' hle hke
      go_wp2
      go_end0
      exact ⟨rfl, l', J, _, ⟨.pass m hm0, .pass m hm0, .inl rfl⟩, ⟨_, _, _, HL.out⟩, HG.out⟩
  · rw [hk] at hq
    go_enter Tryz.func19, Tryz.ntmps19
    go_wp2_with fail
    refine (ystep_who hc HY.out HO.out hn x.who).mono ?_
    rintro r w1 ⟨b, l', J', Y', rfl, hl', hg, h3⟩
    have HL := Lib.hid hl'
    have HG := Lib.hid hg
    have H3 := Lib.hid h3
    clear hl' hg h3
    go_wp2
    go_end0
    refine ⟨rfl, l', J', Y', ?_, HL.out, HG.out⟩
    rcases H3.out with ⟨_, rfl, _⟩ | ⟨_, hs⟩
    · exact ⟨.rest, .rest, .inl rfl⟩
    · refine ⟨?_, ?_, .inr ⟨by omega, by omega, ?_⟩⟩
      · obtain ⟨k, T, i, z, _, a2, a3, rfl⟩ := hs
        exact .step k T i z a2 a3
      · obtain ⟨k, T, i, z, _, a2, a3, rfl⟩ := hs
        exact .step k T i z a2 a3
      · rw [if_pos hk]
        exact hs
  · rw [show x.k = x.k from rfl] at hq
    have e0 : (x.k == 0) = false := by simp [hk1]
    have e6 : (x.k == 6) = false := by simp [hk2]
    have e7 : (x.k == 7) = false := by simp [hk3]
    go_enter Tryz.func19, Tryz.ntmps19
    go_wp2_with fail
    refine (ystep_who hc HY.out HO.out hn th).mono ?_
    rintro r w1 ⟨b, l', J', Y', rfl, hl', hg, h3⟩
    have HL := Lib.hid hl'
    have HG := Lib.hid hg
    have H3 := Lib.hid h3
    clear hl' hg h3
    go_wp2
    go_end0
    refine ⟨rfl, l', J', Y', ?_, HL.out, HG.out⟩
    rcases H3.out with ⟨_, rfl, _⟩ | ⟨_, hs⟩
    · exact ⟨.rest, .rest, .inl rfl⟩
    · refine ⟨?_, ?_, .inr ⟨by omega, by omega, ?_⟩⟩
      · obtain ⟨k, T, i, z, _, a2, a3, rfl⟩ := hs
        exact .step k T i z a2 a3
      · obtain ⟨k, T, i, z, _, a2, a3, rfl⟩ := hs
        exact .step k T i z a2 a3
      · rw [if_neg hk3, ← HTW.out]
        exact hs
end

end Go.Proofs.YtpbpkmmhdfahnaaGreat
