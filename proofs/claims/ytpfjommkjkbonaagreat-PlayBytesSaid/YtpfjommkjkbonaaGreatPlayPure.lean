/-
  Moves that are done to a yard, one behind the other, and how each is answered; its deeds are what was asked for. No Go. No condition.
-/
import Derived.Test.YtpfjommkjkbonaaGreatCodePure
import Derived.Test.YtpfjommkjkbonaaGreatYardTrace
namespace Go.Proofs.YtpfjommkjkbonaaGreat
open Go.RowKit
set_option linter.unusedVariables false

theorem Wk.step_det {T : Wk} {P : Pl} {C : List Int} {now z z' : Int} (hk : T.Ok P C) (hf : ∀ j, 0 ≤ C.getD j 0 ∧ C.getD j 0 ≤ 18446744073709551615) (h : T.ask C z) (h' : T.ask C z') : T.step P C now z = T.step P C now z' := by
  cases T with
  | pu k => rfl
  | ge k =>
    show Wk.ge (k.step P.N P.hw C z) = Wk.ge (k.step P.N P.hw C z')
    rw [Ge.step_one hk.1 hf h h']
/-- Can it be asked for? -/
def CM.asks (m : CM) : Prop := (m.ck = 0 ∨ m.ck = 1) ∧ (m.ce = 0 ∨ m.ce = 1)
/-- What comes of a move, and how it is answered. -/
inductive PDo (B : YB) (N : Nat) (m : CM) (Y : Yd) : Yd → Int → Prop
  | out (h : m.k = 0) (hw : m.who < 0 ∨ B.t ≤ m.who ∨ ¬ m.asks) : PDo B N m Y Y 1
  | busy (k : Nat) (a : Wk × Nat) (h : m.k = 0) (hw : m.who = k) (ha : m.asks) (hb : Y.ts[k]? = some (some a)) : PDo B N m Y Y 2
  | call (k : Nat) (take : Bool) (h : m.k = 0) (hw : m.who = k) (hk : kdI take = m.ck) (he : m.ce = 0 ∨ m.ce = 1) (hq : Y.ts[k]? = some none) : PDo B N m Y (Y.call k m.ck m.ce m.v m.st (wkB B N k take m.ce m.v m.st)) 0
  | none (h : m.k = 1) (hn : ∀ k : Nat, (k : Int) = m.who → ∀ a, Y.ts[k]? ≠ some (some a)) : PDo B N m Y Y 5
  | step (k : Nat) (T : Wk) (i : Nat) (z : Int) (h : m.k = 1) (hw : m.who = k) (hq : Y.ts[k]? = some (some (T, i))) (ha : T.ask Y.C z) : PDo B N m Y (Y.step (plOf B N k) k T i z) 0
  | pass (h : m.k = 2) (hn : 0 < m.n) : PDo B N m Y (Y.pass m.n) 0
  | still (h : m.k = 2) (hn : ¬ 0 < m.n) : PDo B N m Y Y 0
  | other (h0 : m.k ≠ 0) (h1 : m.k ≠ 1) (h2 : m.k ≠ 2) : PDo B N m Y Y 1
section
variable {B : YB} {N n : Nat} {m : CM} {Y Y' Y1 Y2 : Yd} {a a1 a2 : Int}
theorem PDo.how (h : PDo B N m Y Y' a) : YHow B N Y Y' := by
  cases h with
  | out => exact .rest
  | busy => exact .rest
  | call k take h hw hk he hq => exact .call k take m.ck m.ce m.v m.st hq he hk
  | none => exact .rest
  | step k T i z h hw hq ha => exact .step k T i z hq ha
  | pass h hn => exact .pass m.n hn
  | still => exact .rest
  | other => exact .rest
theorem YHow.mv_of (hw : YHow B N Y Y') (hx : ∀ (w : Nat) (take : Bool) (kd e x s : Int), Y' = Y.call w kd e x s (wkB B N w take e x s) → 0 ≤ x ∧ x ≤ 18446744073709551615) (hc : YCf B N) (hT : (B.T : Int) = B.t) (hl : (Y.C.length : Int) = 2 * N + 2 * B.t) (ho : YOk (plOf B N) B.T n Y) : YMv (plOf B N) Y Y' := by
  cases hw with
  | rest => exact .rest
  | call w take kd e x s hq he hk =>
    have hkT : w < B.T := by have := (List.getElem?_eq_some_iff.1 hq).1; have := ho.len; omega
    obtain ⟨m0, m1⟩ := hc.own hT hkT
    obtain ⟨x0, x1⟩ := hx w take kd e x s rfl
    obtain ⟨k1, k2⟩ := wk0_ok (C := Y.C) (so := B.so) (d := B.d) (e := e) (x := x) (start := s) (nb := 2 * N + B.T) (h0 := 2 * N) (hw := 2 * N + w) take hc.lay hl (by omega) (by omega) (by omega) (show (0 : Int) ≤ w by omega) (by omega) rfl m0 m1 hc.o0 hc.o1 hc.d0 hc.d1 he x0 x1
    exact .call w kd e x s _ hq k1 k2 (wk0_by take) (by cases take <;> rfl) ⟨by cases take; exact .inl hk.symm; exact .inr hk.symm, he⟩
  | step w T i z hq ha => exact .step w T i z hq ha
  | pass k hk => exact .pass k hk
/-- It comes of it just this. -/
theorem PDo.det (h : PDo B N m Y Y1 a1) (k : PDo B N m Y Y2 a2) (ho : YOk (plOf B N) B.T n Y) (hT : (B.T : Int) = B.t) (hf : ∀ j, 0 ≤ Y.C.getD j 0 ∧ Y.C.getD j 0 ≤ 18446744073709551615) : Y1 = Y2 ∧ a1 = a2 := by
  have hin : ∀ {k : Nat} {x : Option (Wk × Nat)}, Y.ts[k]? = some x → (k : Int) < B.t := fun {k x} hk => by
    have := (List.getElem?_eq_some_iff.1 hk).1
    have := ho.len
    omega
  have hasks : ∀ {take : Bool}, kdI take = m.ck → (m.ce = 0 ∨ m.ce = 1) → m.asks := fun {take} h1 h2 => ⟨by cases take; exact .inl h1.symm; exact .inr h1.symm, h2⟩
  cases h with
  | out h hw =>
    cases k with
    | out => exact ⟨rfl, rfl⟩
    | busy k a h' hw' ha hb =>
      have := hin hb
      rcases hw with hw | hw | hw
      · omega
      · omega
      · exact absurd ha hw
    | call k take h' hw' hk he hq =>
      have := hin hq
      rcases hw with hw | hw | hw
      · omega
      · omega
      · exact absurd (hasks hk he) hw
    | none h' => omega
    | step k T i z h' => omega
    | pass h' => omega
    | still h' => omega
    | other h0 => omega
  | busy k' a h hw ha hb =>
    cases k with
    | out h' hw' =>
      have := hin hb
      rcases hw' with hw' | hw' | hw'
      · omega
      · omega
      · exact absurd ha hw'
    | busy => exact ⟨rfl, rfl⟩
    | call k take h' hw' hk he hq =>
      obtain rfl : k = k' := by omega
      rw [hb] at hq
      cases hq
    | none h' => omega
    | step k T i z h' => omega
    | pass h' => omega
    | still h' => omega
    | other h0 => omega
  | call k' take h hw hk he hq =>
    cases k with
    | out h' hw' =>
      have := hin hq
      rcases hw' with hw' | hw' | hw'
      · omega
      · omega
      · exact absurd (hasks hk he) hw'
    | busy k a h' hw' ha hb =>
      obtain rfl : k = k' := by omega
      rw [hb] at hq
      cases hq
    | call k take2 h' hw' hk' he' hq' =>
      obtain rfl : k = k' := by omega
      obtain rfl : take2 = take := by
        rw [← hk] at hk'
        cases take <;> cases take2 <;> first | rfl | (exact absurd hk' (by decide))
      exact ⟨rfl, rfl⟩
    | none h' => omega
    | step k T i z h' => omega
    | pass h' => omega
    | still h' => omega
    | other h0 => omega
  | none h hn =>
    cases k with
    | none => exact ⟨rfl, rfl⟩
    | step k T i z h' hw hq ha => exact absurd hq (hn k hw.symm _)
    | out h' => omega
    | busy k a h' => omega
    | call k take h' => omega
    | pass h' => omega
    | still h' => omega
    | other h0 h1 => omega
  | step k' T i z h hw hq ha =>
    cases k with
    | none h' hn => exact absurd hq (hn k' hw.symm _)
    | step k T2 i2 z2 h' hw' hq' ha' =>
      obtain rfl : k = k' := by omega
      rw [hq] at hq'
      cases hq'
      refine ⟨?_, rfl⟩
      obtain ⟨k1, _⟩ := ho.task k T i hq
      have e := Wk.step_det (now := Y.now) k1 hf ha ha'
      unfold Yd.step
      rw [e]
    | out h' => omega
    | busy k a h' => omega
    | call k take h' => omega
    | pass h' => omega
    | still h' => omega
    | other h0 h1 => omega
  | pass h hn =>
    cases k with
    | pass => exact ⟨rfl, rfl⟩
    | still h' hn' => exact absurd hn hn'
    | out h' => omega
    | busy k a h' => omega
    | call k take h' => omega
    | none h' => omega
    | step k T i z h' => omega
    | other h0 h1 h2 => omega
  | still h hn =>
    cases k with
    | pass h' hn' => exact absurd hn' hn
    | still => exact ⟨rfl, rfl⟩
    | out h' => omega
    | busy k a h' => omega
    | call k take h' => omega
    | none h' => omega
    | step k T i z h' => omega
    | other h0 h1 h2 => omega
  | other h0 h1 h2 =>
    cases k with
    | other => exact ⟨rfl, rfl⟩
    | out h' => omega
    | busy k a h' => omega
    | call k take h' => omega
    | none h' => omega
    | step k T i z h' => omega
    | pass h' => omega
    | still h' => omega
/-- What is refused turns nothing. -/
theorem PDo.no (h : PDo B N m Y Y' a) (ha : a ≠ 0) : Y' = Y := by
  cases h <;> first | rfl | exact absurd rfl ha
/-- Where yards lie makes no difference. -/
def YB.like (B B' : YB) : Prop := B'.t = B.t ∧ B'.s = B.s ∧ B'.so = B.so ∧ B'.d = B.d ∧ B'.T = B.T
theorem PDo.like {B' : YB} (h : PDo B N m Y Y' a) (hB : B.like B') : PDo B' N m Y Y' a := by
  obtain ⟨yb, tb, p, c, t, s, so, d, T⟩ := B
  obtain ⟨yb', tb', p', c', t', s', so', d', T'⟩ := B'
  obtain ⟨h1, h2, h3, h4, h5⟩ := hB
  simp only at h1 h2 h3 h4 h5
  subst h1 h2 h3 h4 h5
  cases h with
  | out h hw => exact .out h hw
  | busy k a h hw ha hb => exact .busy k a h hw ha hb
  | call k take h hw hk he hq => exact .call k take h hw hk he hq
  | none h hn => exact .none h hn
  | step k T i z h hw hq ha => exact .step k T i z h hw hq ha
  | pass h hn => exact .pass h hn
  | still h hn => exact .still h hn
  | other h0 h1 h2 => exact .other h0 h1 h2
end

/-- A script that is done. -/
structure PTr (B : YB) (N : Nat) (S : List CM) (Y : Nat → Yd) (A : List Int) : Prop where
  tr : YTr B N Y S.length
  len : A.length = S.length
  at' : ∀ (i : Nat) (m : CM) (a : Int), S[i]? = some m → A[i]? = some a → PDo B N m (Y i) (Y (i + 1)) a
def yd0 (N T : Nat) : Yd := ⟨List.replicate (2 * N + 2 * T) 0, [], 0, 0, List.replicate T none, []⟩
theorem YTr.start {B : YB} {N : Nat} (hc : YCf B N) (hT : (B.T : Int) = B.t) : YTr B N (fun _ => yd0 N B.T) 0 := by
  refine ⟨rfl, fun i hi => absurd hi (Nat.not_lt_zero _), fun i hi => absurd hi (Nat.not_lt_zero _), fun i _ j => ?_, hc, hT, by decide⟩
  show 0 ≤ (List.replicate (2 * N + 2 * B.T) (0 : Int)).getD j 0 ∧ (List.replicate (2 * N + 2 * B.T) (0 : Int)).getD j 0 ≤ _
  rw [List.getD_eq_getElem?_getD, List.getElem?_replicate]
  split
  · show (0 : Int) ≤ 0 ∧ (0 : Int) ≤ _
    omega
  · show (0 : Int) ≤ 0 ∧ (0 : Int) ≤ _
    omega
theorem YTr.take {B : YB} {N n m : Nat} {Y : Nat → Yd} (h : YTr B N Y m) (hn : n ≤ m) : YTr B N Y n :=
  ⟨h.zero, fun i hi => h.how i (by omega), fun i hi => h.mv i (by omega), fun i hi => h.fit i (by omega), h.cf, h.hT, by have := h.few; omega⟩
section
variable {B B' : YB} {N : Nat} {S : List CM} {Y Y' : Nat → Yd} {A A' : List Int}
theorem PTr.start (hc : YCf B N) (hT : (B.T : Int) = B.t) : PTr B N [] (fun _ => yd0 N B.T) [] :=
  ⟨YTr.start hc hT, rfl, fun i m a h => by simp at h⟩
theorem PTr.snoc (h : PTr B N S Y A) {m : CM} {a : Int} {Z : Yd} (hd : PDo B N m (Y S.length) Z a) (hf : ∀ j, 0 ≤ Z.C.getD j 0 ∧ Z.C.getD j 0 ≤ 18446744073709551615) (hv : m.Fit) (hfew : S.length + 1 < 1000000) :
    PTr B N (S ++ [m]) (fun i => if i ≤ S.length then Y i else Z) (A ++ [a]) := by
  have hall := h.tr.all S.length (Nat.le_refl _)
  have hmv : YMv (plOf B N) (Y S.length) Z := hd.how.mv_of (fun w take kd e x s he => by
    cases hd with
    | call k take' h hw hk he' hq =>
      have e1 := congrArg Yd.ds he
      have e2 : ((Y S.length).ds ++ [(⟨(k : Int), m.ck, m.ce, m.v, m.st, (Y S.length).moves, -1, false, 0, 0, 0⟩ : Dd)]) = (Y S.length).ds ++ [⟨(w : Int), kd, e, x, s, (Y S.length).moves, -1, false, 0, 0, 0⟩] := e1
      have e3 := List.append_cancel_left e2
      simp only [List.cons.injEq, Dd.mk.injEq, and_true] at e3
      rw [← e3.2.2.2.1]
      exact hv
    | out h hw =>
      have e1 := congrArg (fun y => y.ds.length) he
      have e2 : (Y S.length).ds.length = ((Y S.length).ds ++ [_]).length := e1
      rw [List.length_append, List.length_singleton] at e2
      omega
    | busy =>
      have e1 := congrArg (fun y => y.ds.length) he
      have e2 : (Y S.length).ds.length = ((Y S.length).ds ++ [_]).length := e1
      rw [List.length_append, List.length_singleton] at e2
      omega
    | none =>
      have e1 := congrArg (fun y => y.ds.length) he
      have e2 : (Y S.length).ds.length = ((Y S.length).ds ++ [_]).length := e1
      rw [List.length_append, List.length_singleton] at e2
      omega
    | step k T i z h hw hq ha =>
      have e1 := congrArg (fun y => y.ds.length) he
      have e2 : (if (T.step (plOf B N k) (Y S.length).C (Y S.length).now z).ph = 0 then (Y S.length).ds else (Y S.length).ds.modify i _).length = ((Y S.length).ds ++ [_]).length := e1
      have e3 : (if (T.step (plOf B N k) (Y S.length).C (Y S.length).now z).ph = 0 then (Y S.length).ds else (Y S.length).ds.modify i (fun d => d.over (Y S.length).moves (T.step (plOf B N k) (Y S.length).C (Y S.length).now z))).length = (Y S.length).ds.length := by
        split
        · rfl
        · rw [List.length_modify]
      rw [List.length_append, List.length_singleton] at e2
      omega
    | pass =>
      have e1 := congrArg (fun y => y.ds.length) he
      have e2 : (Y S.length).ds.length = ((Y S.length).ds ++ [_]).length := e1
      rw [List.length_append, List.length_singleton] at e2
      omega
    | still =>
      have e1 := congrArg (fun y => y.ds.length) he
      have e2 : (Y S.length).ds.length = ((Y S.length).ds ++ [_]).length := e1
      rw [List.length_append, List.length_singleton] at e2
      omega
    | other =>
      have e1 := congrArg (fun y => y.ds.length) he
      have e2 : (Y S.length).ds.length = ((Y S.length).ds ++ [_]).length := e1
      rw [List.length_append, List.length_singleton] at e2
      omega) h.tr.cf h.tr.hT hall.len hall.ok
  refine ⟨by rw [List.length_append, List.length_singleton]; exact h.tr.snoc hd.how hmv hf hfew, by rw [List.length_append, List.length_append, h.len]; rfl, fun i m' a' hi ha => ?_⟩
  rcases ysnoc hi with ⟨rfl, rfl⟩ | ⟨hi1, hi2⟩
  · rw [← h.len, List.getElem?_append_right (Nat.le_refl _), Nat.sub_self] at ha
    cases ha
    show PDo B N m' (if S.length ≤ S.length then Y S.length else Z) (if S.length + 1 ≤ S.length then Y (S.length + 1) else Z) a
    rw [if_pos (Nat.le_refl _), if_neg (by omega)]
    exact hd
  · rw [List.getElem?_append_left (by rw [h.len]; exact hi1)] at ha
    show PDo B N m' (if i ≤ S.length then Y i else Z) (if i + 1 ≤ S.length then Y (i + 1) else Z) a'
    rw [if_pos (by omega), if_pos (by omega)]
    exact h.at' i m' a' hi2 ha
theorem PTr.last (Y : Nat → Yd) (S : List CM) (m : CM) (Z : Yd) : (fun i => if i ≤ S.length then Y i else Z) (S ++ [m]).length = Z := by
  rw [List.length_append, List.length_singleton]
  exact YTr.snoc_last Y S.length Z
/-- What is done is just this. -/
theorem PTr.det (h : PTr B N S Y A) (k : PTr B' N S Y' A') (hB : B'.like B) : (∀ i, i ≤ S.length → Y' i = Y i) ∧ A' = A := by
  have key : ∀ i, i ≤ S.length → Y' i = Y i ∧ ∀ j, j < i → A'[j]? = A[j]? := by
    intro i
    induction i with
    | zero =>
      intro _
      refine ⟨?_, fun j hj => absurd hj (Nat.not_lt_zero _)⟩
      rw [h.tr.zero, k.tr.zero, hB.2.2.2.2]
    | succ i ih =>
      intro hi
      obtain ⟨i1, i2⟩ := ih (by omega)
      have hm : S[i]? = some S[i] := List.getElem?_eq_getElem (by omega)
      have ha : A[i]? = some (A[i]'(by rw [h.len]; omega)) := List.getElem?_eq_getElem (by rw [h.len]; omega)
      have ha' : A'[i]? = some (A'[i]'(by rw [k.len]; omega)) := List.getElem?_eq_getElem (by rw [k.len]; omega)
      have d1 := h.at' i _ _ hm ha
      have d2 := (k.at' i _ _ hm ha').like hB
      rw [i1] at d2
      obtain ⟨e1, e2⟩ := d2.det d1 (h.tr.all i (by omega)).ok h.tr.hT (h.tr.fit i (by omega))
      refine ⟨e1, fun j hj => ?_⟩
      by_cases hji : j = i
      · subst hji
        rw [ha, ha', e2]
      · exact i2 j (by omega)
  refine ⟨fun i hi => (key i hi).1, List.ext_getElem? (fun j => ?_)⟩
  by_cases hj : j < S.length
  · exact (key S.length (Nat.le_refl _)).2 j hj
  · rw [List.getElem?_eq_none (by rw [k.len]; omega), List.getElem?_eq_none (by rw [h.len]; omega)]
theorem PTr.take (h : PTr B N S Y A) {n : Nat} (hn : n ≤ S.length) : PTr B N (S.take n) Y (A.take n) := by
  have hl : (S.take n).length = n := by rw [List.length_take]; omega
  refine ⟨by rw [hl]; exact h.tr.take hn, by rw [hl, List.length_take, h.len]; omega, fun i m a hi ha => ?_⟩
  have h1 := (List.getElem?_eq_some_iff.1 hi).1
  rw [hl] at h1
  rw [List.getElem?_take_of_lt h1] at hi ha
  exact h.at' i m a hi ha
/-- Without what was refused. -/
def lessOf : List CM → List Int → List CM
  | m :: S, a :: A => if a = 0 then m :: lessOf S A else lessOf S A
  | _, _ => []
theorem lessOf_snoc : ∀ (S : List CM) (A : List Int) (m : CM) (a : Int), S.length = A.length → lessOf (S ++ [m]) (A ++ [a]) = lessOf S A ++ (if a = 0 then [m] else [])
  | [], [], m, a, _ => by
    show (if a = 0 then m :: lessOf [] [] else lessOf [] []) = _
    split <;> rfl
  | [], _ :: _, m, a, h => by simp at h
  | _ :: _, [], m, a, h => by simp at h
  | x :: S, y :: A, m, a, h => by
    have ih := lessOf_snoc S A m a (by simpa using h)
    show (if y = 0 then x :: lessOf (S ++ [m]) (A ++ [a]) else lessOf (S ++ [m]) (A ++ [a])) = (if y = 0 then x :: lessOf S A else lessOf S A) ++ _
    rw [ih]
    split <;> rfl
theorem lessOf_len : ∀ (S : List CM) (A : List Int), (lessOf S A).length ≤ S.length
  | [], A => by cases A <;> exact Nat.le_refl _
  | m :: S, [] => Nat.zero_le _
  | m :: S, a :: A => by
    have := lessOf_len S A
    show (if a = 0 then m :: lessOf S A else lessOf S A).length ≤ _
    split
    · rw [List.length_cons, List.length_cons]; omega
    · rw [List.length_cons]; omega
theorem PTr.less (h : PTr B N S Y A) (hv : ∀ m ∈ S, m.Fit) : ∀ n, n ≤ S.length → ∃ Y2 A2, PTr B N (lessOf (S.take n) (A.take n)) Y2 A2 ∧ Y2 (lessOf (S.take n) (A.take n)).length = Y n
  | 0, _ => ⟨_, _, PTr.start h.tr.cf h.tr.hT, by rw [h.tr.zero]; rfl⟩
  | n + 1, hn => by
    obtain ⟨Y2, A2, h2, e⟩ := PTr.less h hv n (by omega)
    have hm : S[n]? = some S[n] := List.getElem?_eq_getElem (by omega)
    have ha : A[n]? = some (A[n]'(by rw [h.len]; omega)) := List.getElem?_eq_getElem (by rw [h.len]; omega)
    have hd := h.at' n _ _ hm ha
    have e1 : S.take (n + 1) = S.take n ++ [S[n]] := by rw [List.take_add_one, hm]; rfl
    have e2 : A.take (n + 1) = A.take n ++ [A[n]'(by rw [h.len]; omega)] := by rw [List.take_add_one, ha]; rfl
    rw [e1, e2, lessOf_snoc _ _ _ _ (by rw [List.length_take, List.length_take, h.len])]
    generalize A[n]'(by rw [h.len]; omega) = a at hd
    have hll := lessOf_len (S.take n) (A.take n)
    rw [List.length_take] at hll
    have hfew := h.tr.few
    split
    · rename_i h0
      rw [← e] at hd
      exact ⟨_, _, h2.snoc hd (h.tr.fit (n + 1) hn) (hv _ (List.getElem_mem _)) (by omega), PTr.last _ _ _ _⟩
    · rename_i h0
      rw [List.append_nil]
      exact ⟨Y2, A2, h2, by rw [e, hd.no h0]⟩
/-- What a deed was asked for. -/
def Dd.ask (d : Dd) : Int × Int × Int × Int × Int := (d.who, d.kd, d.e, d.x, d.s)
def CM.ask (m : CM) : Int × Int × Int × Int × Int := (m.who, m.ck, m.ce, m.v, m.st)
theorem modify_ask (l : List Dd) (i : Nat) (q : Nat) (T : Wk) : (l.modify i (fun d => d.over q T)).map Dd.ask = l.map Dd.ask := by
  refine List.ext_getElem? (fun j => ?_)
  rw [List.getElem?_map, List.getElem?_map, List.getElem?_modify]
  cases hj : l[j]? with
  | none => rfl
  | some d =>
    obtain ⟨s1, s2, s3, s4, s5, _⟩ := Dd.over_same d q T
    split
    · show some ((d.over q T).ask) = some d.ask
      unfold Dd.ask
      rw [s1, s2, s3, s4, s5]
    · rfl
theorem PDo.deeds {m : CM} {a : Int} {Y Y' : Yd} (h : PDo B N m Y Y' a) : Y'.ds.map Dd.ask = Y.ds.map Dd.ask ∨ (m.k = 0 ∧ m.asks ∧ 0 ≤ m.who ∧ Y'.ds.map Dd.ask = Y.ds.map Dd.ask ++ [m.ask]) := by
  cases h with
  | call k take h hw hk he hq =>
    refine .inr ⟨h, ⟨by cases take; exact .inl hk.symm; exact .inr hk.symm, he⟩, by omega, ?_⟩
    show (Y.ds ++ [_]).map Dd.ask = _
    rw [List.map_append]
    show _ ++ [((k : Int), m.ck, m.ce, m.v, m.st)] = _ ++ [m.ask]
    rw [← hw]
    rfl
  | step k T i z h hw hq ha =>
    left
    show (if _ then Y.ds else Y.ds.modify i _).map Dd.ask = _
    split
    · rfl
    · exact modify_ask _ _ _ _
  | out => exact .inl rfl
  | busy => exact .inl rfl
  | none => exact .inl rfl
  | pass => exact .inl rfl
  | still => exact .inl rfl
  | other => exact .inl rfl
/-- What was asked for is what the script asks for, in its order. -/
def isBeg (m : CM) : Bool := decide (m.k = 0)
theorem PTr.deeds (h : PTr B N S Y A) : ∀ n, n ≤ S.length → ((Y n).ds.map Dd.ask).Sublist (((S.take n).filter isBeg).map CM.ask) ∧ ∀ d ∈ (Y n).ds, (d.kd = 0 ∨ d.kd = 1) ∧ (d.e = 0 ∨ d.e = 1)
  | 0, _ => by
    rw [h.tr.zero]
    exact ⟨List.Sublist.refl _, fun d hd => by cases hd⟩
  | n + 1, hn => by
    obtain ⟨ih1, ih2⟩ := PTr.deeds h n (by omega)
    have hm : S[n]? = some S[n] := List.getElem?_eq_getElem (by omega)
    have ha : A[n]? = some (A[n]'(by rw [h.len]; omega)) := List.getElem?_eq_getElem (by rw [h.len]; omega)
    have hd := h.at' n _ _ hm ha
    have e1 : S.take (n + 1) = S.take n ++ [S[n]] := by rw [List.take_add_one, hm]; rfl
    rw [e1, List.filter_append, List.map_append]
    have hmem : ∀ {l l' : List Dd}, l'.map Dd.ask = l.map Dd.ask → (∀ d ∈ l, (d.kd = 0 ∨ d.kd = 1) ∧ (d.e = 0 ∨ d.e = 1)) → ∀ d ∈ l', (d.kd = 0 ∨ d.kd = 1) ∧ (d.e = 0 ∨ d.e = 1) := fun {l l'} e hl d hd => by
      have h1 : d.ask ∈ l.map Dd.ask := by rw [← e]; exact List.mem_map_of_mem hd
      obtain ⟨d2, h2, h3⟩ := List.mem_map.1 h1
      have h4 := hl d2 h2
      have e5 : d2.kd = d.kd := by have := congrArg (fun x => x.2.1) h3; exact this
      have e6 : d2.e = d.e := by have := congrArg (fun x => x.2.2.1) h3; exact this
      rw [← e5, ← e6]
      exact h4
    rcases hd.deeds with he | ⟨h0, h1, _, he⟩
    · rw [he]
      exact ⟨ih1.trans (List.sublist_append_left _ _), hmem he ih2⟩
    · rw [he]
      have hb : isBeg S[n] = true := decide_eq_true h0
      refine ⟨ih1.append (by rw [List.filter_cons_of_pos hb]; exact List.Sublist.refl _), fun d hd' => ?_⟩
      have h3 : d.ask ∈ (Y n).ds.map Dd.ask ++ [S[n].ask] := by rw [← he]; exact List.mem_map_of_mem hd'
      rcases List.mem_append.1 h3 with h3 | h3
      · obtain ⟨d2, h2, h3⟩ := List.mem_map.1 h3
        have h4 := ih2 d2 h2
        have e5 : d2.kd = d.kd := by have := congrArg (fun x => x.2.1) h3; exact this
        have e6 : d2.e = d.e := by have := congrArg (fun x => x.2.2.1) h3; exact this
        rw [← e5, ← e6]
        exact h4
      · have h3 := List.mem_singleton.1 h3
        have e5 : d.kd = S[n].ck := by have := congrArg (fun x => x.2.1) h3; exact this
        have e6 : d.e = S[n].ce := by have := congrArg (fun x => x.2.2.1) h3; exact this
        rw [e5, e6]
        exact h1
/-- What all calls of a script have its deeds have. -/
theorem PTr.have (h : PTr B N S Y A) {n : Nat} (hn : n ≤ S.length) {P : Int × Int × Int × Int × Int → Prop} (hP : ∀ m ∈ S, m.k = 0 → P m.ask) {d : Dd} (hd : d ∈ (Y n).ds) : P d.ask := by
  have h1 := (h.deeds n hn).1.subset (List.mem_map_of_mem hd)
  obtain ⟨m, h2, h3⟩ := List.mem_map.1 h1
  rw [List.mem_filter] at h2
  rw [← h3]
  exact hP m (List.mem_of_mem_take h2.1) (of_decide_eq_true h2.2)
end
end Go.Proofs.YtpfjommkjkbonaaGreat
