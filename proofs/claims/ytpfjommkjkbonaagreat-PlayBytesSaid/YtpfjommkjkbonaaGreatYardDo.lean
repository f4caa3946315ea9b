/-
  The contract of a move that is done to a yard. No condition but that numbers fit their kinds.
-/
import Derived.Test.YtpfjommkjkbonaaGreatYardTells
namespace Go.Proofs.YtpfjommkjkbonaaGreat
open Go.RowKit
set_option linter.unusedVariables false

/-- Whose move it is. -/
def Mv.w (x : Mv) (t : Int) : Int := x.who % 65536 % t
/-- What a move asks for. -/
def Mv.k (x : Mv) : Int := x.kind % 8
/-- A thread's step. -/
def isStep (B : YB) (N : Nat) (Y Y' : Yd) (who : Int) : Prop := ∃ (k : Nat) (T : Wk) (i : Nat) (z : Int), (k : Int) = who ∧ Y.ts[k]? = some (some (T, i)) ∧ T.ask Y.C z ∧ Y' = Y.step (plOf B N k) k T i z
/-- What is done to a yard, call by call. -/
inductive YHow (B : YB) (N : Nat) (Y : Yd) : Yd → Prop
  | rest : YHow B N Y Y
  | call (w : Nat) (take : Bool) (kd e x s : Int) (hw : Y.ts[w]? = some none) (he : e = 0 ∨ e = 1) (hk : kdI take = kd) : YHow B N Y (Y.call w kd e x s (wkB B N w take e x s))
  | step (w : Nat) (T : Wk) (i : Nat) (z : Int) (hw : Y.ts[w]? = some (some (T, i))) (ha : T.ask Y.C z) : YHow B N Y (Y.step (plOf B N w) w T i z)
  | pass (n : Int) (hn : 0 < n) : YHow B N Y (Y.pass n)
/-- What comes of a move. -/
structure DoIs (B : YB) (N : Nat) (x : Mv) (Y Y' : Yd) : Prop where
  mv : YMv (plOf B N) Y Y'
  how : YHow B N Y Y'
  log : Y'.L = Y.L ∨ (x.k ≠ 0 ∧ x.k ≠ 6 ∧ isStep B N Y Y' (if x.k = 7 then x.who else x.w B.t))

theorem and_7' (a : Int) : bits .and .i64 a 7 = a % 8 := by rw [show (7 : Int) = ((7 : Nat) : Int) from rfl, and_i64 a 7 3 rfl (by decide)]; rfl

section
variable {W w w' : World} {l : List Thing} {B : YB} {Y : Yd} {J : Nat → Nat} {v vd : Value} {X : List Value}

theorem YStay.go {l l' : List Thing} {k : Nat} {J' : Nat → Nat} {a : Wk × Nat} {Y' : Yd} (h : YStay l l' (J k)) (hk : Y.ts[k]? = some (some a)) (ht : ∀ (q : Nat) (b : Wk × Nat), Y'.ts[q]? = some (some b) → ∃ b', Y.ts[q]? = some (some b')) : YGo Y Y' l l' J J :=
  ⟨h.1, fun j A hj hf => h.2 j A hf.1 (fun e => hf.2 k a hk e.symm) hj, fun j _ hf => ⟨hf.1, fun q b hq => by
    obtain ⟨b', hb'⟩ := ht q b hq
    exact hf.2 q b' hb'⟩⟩
theorem step_ts {P : Pl} {k i : Nat} {T : Wk} {z : Int} (hk : Y.ts[k]? = some (some (T, i))) : ∀ (q : Nat) (b : Wk × Nat), (Y.step P k T i z).ts[q]? = some (some b) → ∃ b', Y.ts[q]? = some (some b') := fun q b hq => by
  have hq' : (if (T.step P Y.C Y.now z).ph = 0 then Y.ts.set k (some (T.step P Y.C Y.now z, i)) else Y.ts.set k none)[q]? = some (some b) := hq
  split at hq'
  · rcases yset hq' with ⟨rfl, _, _⟩ | ⟨_, h⟩
    · exact ⟨_, hk⟩
    · exact ⟨_, h⟩
  · rcases yset hq' with ⟨_, h, _⟩ | ⟨_, h⟩
    · cases h
    · exact ⟨_, h⟩
theorem pass_go {l l' : List Thing} {n : Int} (hl : l'.length = l.length) (hk : ∀ j A, 4 ≤ j → l[j]? = some A → l'[j]? = some A) : YGo Y (Y.pass n) l l' J J :=
  ⟨by rw [hl]; exact Nat.le_refl _, fun j A hj hf => hk j A hf.1 hj, fun _ _ h => h⟩

/-- A step that may not be. -/
theorem ystep_out (h : YAt W w l B Y J v vd X) (k : Int) (hk : k < 0 ∨ B.t ≤ k) :
    Calls Tryz.prog 39 #[pt B.yb, i64 k] w fun r w' => r = .returned (.bool false) ∧ w = w' := by
  have hB := busy_out h k hk
  have HB := Lib.hid hB
  clear hB h
  go_enter Tryz.func39, Tryz.ntmps39
  go_wp2_with fail
  refine HB.out.mono ?_
  rintro r w' ⟨rfl, rfl⟩
  go_wp2
  go_ret
  exact ⟨rfl, rfl⟩
theorem ystep_none (h : YAt W w l B Y J v vd X) (k : Nat) (hk : Y.ts[k]? = some none) :
    Calls Tryz.prog 39 #[pt B.yb, i64 k] w fun r w' => r = .returned (.bool false) ∧ w = w' := by
  have hkT : k < B.T := by have := (List.getElem?_eq_some_iff.1 hk).1; have := h.tl; omega
  have hB := busy_in h k hkT _ hk
  simp only [Option.isSome_none] at hB
  have HB := Lib.hid hB
  clear hB h hk
  go_enter Tryz.func39, Tryz.ntmps39
  go_wp2_with fail
  refine HB.out.mono ?_
  rintro r w' ⟨rfl, rfl⟩
  go_wp2
  go_ret
  exact ⟨rfl, rfl⟩

/-- A step of whoever. -/
theorem ystep_who {N n : Nat} (hc : YCf B N) (h : YH W w l B Y J) (ho : YOk (plOf B N) B.T n Y) (hn : n < 1000000) (who : Int) :
    Calls Tryz.prog 39 #[pt B.yb, i64 who] w fun r w' => ∃ b l' J' Y', r = .returned (.bool b) ∧ YH W w' l' B Y' J' ∧ YGo Y Y' l l' J J' ∧ ((b = false ∧ Y' = Y ∧ (∀ k : Nat, (k : Int) = who → ∀ a, Y.ts[k]? ≠ some (some a))) ∨ (b = true ∧ isStep B N Y Y' who)) := by
  obtain ⟨v, vd, X, h⟩ := h
  have hT := h.hT
  have hlen := ho.len
  by_cases hw : who < 0 ∨ B.t ≤ who
  · refine (ystep_out h who hw).mono ?_
    rintro r w' ⟨rfl, rfl⟩
    exact ⟨false, l, J, Y, rfl, ⟨v, vd, X, h⟩, YGo.refl _ _ _, .inl ⟨rfl, rfl, fun k hk a ha => by have := (List.getElem?_eq_some_iff.1 ha).1; omega⟩⟩
  · obtain ⟨k, rfl⟩ : ∃ k : Nat, who = k := ⟨who.toNat, by omega⟩
    cases hq : Y.ts[k]? with
    | none =>
      rw [List.getElem?_eq_none_iff] at hq
      omega
    | some a =>
      cases a with
      | none =>
        refine (ystep_none h k hq).mono ?_
        rintro r w' ⟨rfl, rfl⟩
        exact ⟨false, l, J, Y, rfl, ⟨v, vd, X, h⟩, YGo.refl _ _ _, .inl ⟨rfl, rfl, fun k' hk' a ha => by
          obtain rfl : k' = k := by omega
          rw [hq] at ha
          cases ha⟩⟩
      | some a =>
        refine (ystep_any h ho hn hq).mono ?_
        rintro r w' ⟨rfl, z, hz, l', hl', hs⟩
        exact ⟨true, l', J, _, rfl, hl', YStay.go (J' := J) hs hq (step_ts hq), .inr ⟨rfl, k, a.1, a.2, z, rfl, hq, hz, rfl⟩⟩

/-- A call of whoever there is. -/
theorem ycall_who {N n : Nat} (hc : YCf B N) (h : YH W w l B Y J) (ho : YOk (plOf B N) B.T n Y) (hn : n < 1000000) (hC : (Y.C.length : Int) = 2 * N + 2 * B.t) (k : Nat) (hk : k < B.T) (take : Bool) {kd : Int} (hkd : kdI take = kd) (e x s : Int) (he : e = 0 ∨ e = 1) (x0 : 0 ≤ x) (x1 : x ≤ 18446744073709551615) :
    Calls Tryz.prog 38 #[pt B.yb, i64 k, callV kd e x s] w fun r w' => ∃ l' J' Y', YH W w' l' B Y' J' ∧ YGo Y Y' l l' J J' ∧ YMv (plOf B N) Y Y' ∧ ((r = .returned (i64 2) ∧ Y' = Y ∧ ∃ a, Y.ts[k]? = some (some a)) ∨ (r = .returned (i64 0) ∧ Y.ts[k]? = some none ∧ Y' = Y.call k kd e x s (wkB B N k take e x s))) := by
  obtain ⟨v, vd, X, h⟩ := h
  have hT := h.hT
  have hlen := ho.len
  have hm := ho.most
  cases hq : Y.ts[k]? with
  | none =>
    rw [List.getElem?_eq_none_iff] at hq
    omega
  | some a =>
    cases a with
    | some a =>
      refine (ycall_busy h k a hq kd e x s ⟨by cases take; exact .inl hkd.symm; exact .inr hkd.symm, he⟩).mono ?_
      rintro r w' ⟨rfl, hb⟩
      exact ⟨l, J, Y, ⟨v, vd, X, h.later hb⟩, YGo.refl _ _ _, .rest, .inl ⟨rfl, rfl, a, rfl⟩⟩
    | none =>
      refine (ycall_yes hc h take hkd e x s he hq ho.nds (by omega)).mono ?_
      rintro r w' ⟨rfl, l', J', hl', hg⟩
      obtain ⟨m0, m1⟩ := hc.own hT hk
      obtain ⟨k1, k2⟩ := wk0_ok (C := Y.C) (so := B.so) (d := B.d) (e := e) (x := x) (start := s) (nb := 2 * N + B.T) (h0 := 2 * N) (hw := 2 * N + k) take hc.lay hC (by omega) (by omega) (by omega) (show (0 : Int) ≤ k by omega) (by omega) rfl m0 m1 hc.o0 hc.o1 hc.d0 hc.d1 he x0 x1
      exact ⟨l', J', _, hl', hg, .call k kd e x s _ hq k1 k2 (wk0_by take) (by cases take <;> rfl) ⟨by cases take; exact .inl hkd.symm; exact .inr hkd.symm, he⟩, .inr ⟨rfl, rfl, rfl⟩⟩

theorem AtMv.v8 (x : Mv) : x.v = .agg #[.int .i64 x.kind, .int .i64 x.who, .bool x.take, .bool x.right, .int .u64 x.value, .int .i64 x.start, .int .i64 x.time] := rfl

end

end Go.Proofs.YtpfjommkjkbonaaGreat
