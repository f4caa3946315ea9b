/-
  A task over one memory, and beside it a put and a get over another one, of which one does what the task does: what a call holds that has all of them, with the contracts of what is done with them. No condition.
-/
import Derived.Test.YtemaghebpnjmoaaTaskOne
namespace Go.Proofs.Ytemaghebpnjmoaa
open Go.RowKit
set_option linter.unusedVariables false

/-- What comes of a step doesn't hang on how it was asked. -/
theorem Wk.step_one {T : Wk} {P : Pl} {C : List Int} {now z z' : Int} (hk : T.Ok P C) (hf : ∀ j, 0 ≤ C.getD j 0 ∧ C.getD j 0 ≤ 18446744073709551615) (h : T.ask C z) (h' : T.ask C z') : T.step P C now z = T.step P C now z' := by
  cases T with
  | pu k => rfl
  | ge k =>
    show Wk.ge (k.step P.N P.hw C z) = Wk.ge (k.step P.N P.hw C z')
    rw [Ge.step_one hk.1 hf h h']

/-- What a reply has, where there is one. -/
def Wk.rv : Wk → Int
  | .pu _ => 0
  | .ge k => k.val
def Wk.rlo : Wk → Int
  | .pu k => k.tk.lo
  | .ge _ => 0
def Wk.rhi : Wk → Int
  | .pu k => k.tk.hi
  | .ge _ => 0
theorem Wk.reply_yes {T : Wk} (h : T.ph = 1) : T.reply = replyV true T.rv T.rlo T.rhi := by
  cases T with
  | pu k => exact if_pos h
  | ge k => exact if_pos h
theorem Wk.reply_no {T : Wk} (h : T.ph ≠ 1) : T.reply = replyV false 0 0 0 := by
  cases T with
  | pu k => exact if_neg h
  | ge k => exact if_neg h

section
variable {W w w' : World} {p c b : Nat} {C : List Int} {L : List Ev} {T : Wk} {R R' : List Thing} {kd e x s : Int} {A B A' B' : Thing}

/-- What is done to two other things. -/
theorem TsH.other {f : FuncId} {args : Array Value} {Q : Ending → Thing → Thing → Prop} (h : TsH W w p c C L b kd e x s T (A :: B :: R))
    (hin : ∀ R', Hold W w (A :: B :: R') → Calls Try.prog f args w fun r w' => ∃ A' B', Q r A' B' ∧ Hold W w' (A' :: B' :: R')) :
    Calls Try.prog f args w fun r w' => ∃ A' B', Q r A' B' ∧ TsH W w' p c C L b kd e x s T (A' :: B' :: R) := by
  have fwd : ∀ {w : World} {a b' c' A B : Thing} {R : List Thing}, Hold W w (a :: b' :: c' :: A :: B :: R) → Hold W w (A :: B :: a :: b' :: c' :: R) := fun h =>
    h.sel (fun i => if i = 0 then 3 else if i = 1 then 4 else if i = 2 then 0 else if i = 3 then 1 else if i = 4 then 2 else i) (fun i A hi => by
      match i with
      | 0 => exact hi
      | 1 => exact hi
      | 2 => exact hi
      | 3 => exact hi
      | 4 => exact hi
      | i + 5 => exact hi) (fun i j hi hj he => by
      split at he <;> split at he <;> (try split at he) <;> (try split at he) <;> (try split at he) <;> (try split at he) <;> (try split at he) <;> (try split at he) <;> (try split at he) <;> (try split at he) <;> omega)
  have bwd : ∀ {w : World} {a b' c' A B : Thing} {R : List Thing}, Hold W w (A :: B :: a :: b' :: c' :: R) → Hold W w (a :: b' :: c' :: A :: B :: R) := fun h =>
    h.sel (fun i => if i = 0 then 2 else if i = 1 then 3 else if i = 2 then 4 else if i = 3 then 0 else if i = 4 then 1 else i) (fun i A hi => by
      match i with
      | 0 => exact hi
      | 1 => exact hi
      | 2 => exact hi
      | 3 => exact hi
      | 4 => exact hi
      | i + 5 => exact hi) (fun i j hi hj he => by
      split at he <;> split at he <;> (try split at he) <;> (try split at he) <;> (try split at he) <;> (try split at he) <;> (try split at he) <;> (try split at he) <;> (try split at he) <;> (try split at he) <;> omega)
  cases T with
  | pu k =>
    obtain ⟨v, bp, b1, b2, h⟩ := h
    refine (hin _ (fwd h)).mono ?_
    rintro r w' ⟨A', B', h1, h2⟩
    exact ⟨A', B', h1, v, bp, b1, b2, bwd h2⟩
  | ge k =>
    obtain ⟨bg, v, bs, gs, bt, h⟩ := h
    refine (hin _ (fwd h)).mono ?_
    rintro r w' ⟨A', B', h1, h2⟩
    exact ⟨A', B', h1, bg, v, bs, gs, bt, bwd h2⟩

/-- The rest in another order, or less of it. -/
theorem TsH.sel (h : TsH W w p c C L b kd e x s T R) (f : Nat → Nat) (hf : ∀ (i : Nat) (A : Thing), R'[i]? = some A → R[f i]? = some A) (hi : ∀ i j, i < R'.length → j < R'.length → f i = f j → i = j) : TsH W w p c C L b kd e x s T R' := by
  have gen : ∀ {a b' c' : Thing}, Hold W w (a :: b' :: c' :: R) → Hold W w (a :: b' :: c' :: R') := fun h =>
    h.sel (fun i => if i < 3 then i else f (i - 3) + 3) (fun i A hA => by
      match i with
      | 0 => exact hA
      | 1 => exact hA
      | 2 => exact hA
      | i + 3 =>
        have h1 : ¬ i + 3 < 3 := by omega
        simp only [h1, if_false]
        exact hf i A hA) (fun i j hi' hj' he => by
      have hi2 : i < R'.length + 3 := hi'
      have hj2 : j < R'.length + 3 := hj'
      split at he <;> split at he
      · exact he
      · omega
      · omega
      · have := hi (i - 3) (j - 3) (by omega) (by omega) (by omega)
        omega)
  cases T with
  | pu k =>
    obtain ⟨v, bp, b1, b2, h⟩ := h
    exact ⟨v, bp, b1, b2, gen h⟩
  | ge k =>
    obtain ⟨bg, v, bs, gs, bt, h⟩ := h
    exact ⟨bg, v, bs, gs, bt, gen h⟩
theorem TsH.less {Q : List Thing} (h : TsH W w p c C L b kd e x s T (R ++ Q)) : TsH W w p c C L b kd e x s T R :=
  h.sel id (fun i A hA => by
    have hl : i < R.length := (List.getElem?_eq_some_iff.1 hA).1
    show (R ++ Q)[i]? = _
    rw [List.getElem?_append_left hl]
    exact hA) (fun i j _ _ h => h)
/-- A cell of a struct is stored. -/
theorem TsH.setB {bb : Nat} {xs : List Value} (h : TsH W w p c C L b kd e x s T R) (i : Nat) (hi : R[i]? = some (tObj W.heap.size bb xs)) (j : Nat) (u : Value) : TsH W (w.setCell ⟨bb, j, none⟩ u) p c C L b kd e x s T (R.set i (tObj W.heap.size bb (xs.set j u))) := by
  have gen : ∀ {a b' c' : Thing}, Hold W w (a :: b' :: c' :: R) → Hold W (w.setCell ⟨bb, j, none⟩ u) (a :: b' :: c' :: R.set i (tObj W.heap.size bb (xs.set j u))) := fun {a b' c'} h => by
    have h3 : (a :: b' :: c' :: R)[i + 3]? = some (tObj W.heap.size bb xs) := hi
    have hP : (tObj W.heap.size bb xs).P w := h.has (i + 3) _ h3
    exact h.turn (i + 3) h3 ((Keep.refl _ _).own j u) (tObj_ok _ _ _) ⟨hP.1.set j u, hP.2⟩ (fun q hq => .inl hq)
  cases T with
  | pu k =>
    obtain ⟨v, bp, b1, b2, h⟩ := h
    exact ⟨v, bp, b1, b2, gen h⟩
  | ge k =>
    obtain ⟨bg, v, bs, gs, bt, h⟩ := h
    exact ⟨bg, v, bs, gs, bt, gen h⟩
end

/-- A task over the first memory; a put and a get over the second one, of which the one is as T' says, and the other one was never stepped. -/
def TwoH (W w : World) (p c p' c' : Nat) (C : List Int) (L : List Ev) (C' : List Int) (L' : List Ev) (b : Nat) (kd e x s : Int) (T T' : Wk) (bp bg : Nat) (R : List Thing) : Prop := match T' with
  | .pu k => ∃ v' b1 b2 bs gs bt g, g.ph = 0 ∧ TsH W w p c C L b kd e x s T (tMem W.heap.size p' c' v' C' L' :: tPu W.heap.size bp b1 b2 k :: tGe W.heap.size bg bs gs bt g :: R)
  | .ge k => ∃ v' bs gs bt b1 b2 q, q.ph = 0 ∧ TsH W w p c C L b kd e x s T (tMem W.heap.size p' c' v' C' L' :: tGe W.heap.size bg bs gs bt k :: tPu W.heap.size bp b1 b2 q :: R)

section
variable {W w w' : World} {p c p' c' b bp bg : Nat} {C C' : List Int} {L L' : List Ev} {T T' : Wk} {R : List Thing} {kd e x s : Int} {A : Thing}

/-- What holds of the task and of what is in whatever order. -/
theorem TwoH.open (h : TwoH W w p c p' c' C L C' L' b kd e x s T T' bp bg R) : ∃ v' A B, TsH W w p c C L b kd e x s T (tMem W.heap.size p' c' v' C' L' :: A :: B :: R) ∧ ∀ w2 T2 C2 L2 R2, TsH W w2 p c C2 L2 b kd e x s T2 (tMem W.heap.size p' c' v' C' L' :: A :: B :: R2) → TwoH W w2 p c p' c' C2 L2 C' L' b kd e x s T2 T' bp bg R2 := by
  cases T' with
  | pu k =>
    obtain ⟨v', b1, b2, bs, gs, bt, g, hg, h⟩ := h
    exact ⟨v', _, _, h, fun w2 T2 C2 L2 R2 h2 => ⟨v', b1, b2, bs, gs, bt, g, hg, h2⟩⟩
  | ge k =>
    obtain ⟨v', bs, gs, bt, b1, b2, q, hq, h⟩ := h
    exact ⟨v', _, _, h, fun w2 T2 C2 L2 R2 h2 => ⟨v', bs, gs, bt, b1, b2, q, hq, h2⟩⟩
theorem TwoH.later (h : TwoH W w p c p' c' C L C' L' b kd e x s T T' bp bg R) (k : Below w.heap.size w w') : TwoH W w' p c p' c' C L C' L' b kd e x s T T' bp bg R := by
  obtain ⟨v', A, B, h1, h2⟩ := h.open
  exact h2 _ _ _ _ _ (h1.later k)
theorem TwoH.drew (h : TwoH W w p c p' c' C L C' L' b kd e x s T T' bp bg R) : TwoH W w.drew p c p' c' C L C' L' b kd e x s T T' bp bg R := h.later (Below.refl _ _).drew
theorem TwoH.below (h : TwoH W w p c p' c' C L C' L' b kd e x s T T' bp bg R) : Below W.heap.size W w := by
  obtain ⟨v', A, B, h1, h2⟩ := h.open
  exact h1.below
theorem TwoH.size (h : TwoH W w p c p' c' C L C' L' b kd e x s T T' bp bg R) : W.heap.size ≤ w.heap.size := h.below.size
theorem TwoH.fit (h : TwoH W w p c p' c' C L C' L' b kd e x s T T' bp bg R) : ∀ j, 0 ≤ C.getD j 0 ∧ C.getD j 0 ≤ 18446744073709551615 := by
  obtain ⟨v', A, B, h1, h2⟩ := h.open
  exact h1.fit
theorem TwoH.mem1 (h : TwoH W w p c p' c' C L C' L' b kd e x s T T' bp bg R) : ∃ v, IsMem W.heap.size w p c v C L := by
  obtain ⟨v', A, B, h1, h2⟩ := h.open
  exact h1.mem
theorem TwoH.mem2 (h : TwoH W w p c p' c' C L C' L' b kd e x s T T' bp bg R) : ∃ v, IsMem W.heap.size w p' c' v C' L' := by
  obtain ⟨v', A, B, h1, h2⟩ := h.open
  exact ⟨v', h1.at 0 rfl⟩
theorem TwoH.over (h : TwoH W w p c p' c' C L C' L' b kd e x s T T' bp bg R) (q : Bool) (hq : (T.ph != 0) = q) : Calls Try.prog 16 #[pt b] w fun r w' => r = .returned (.bool q) ∧ Below w.heap.size w w' := by
  obtain ⟨v', A, B, h1, h2⟩ := h.open
  exact h1.over' q hq
theorem TwoH.call (h : TwoH W w p c p' c' C L C' L' b kd e x s T T' bp bg R) : Calls Try.prog 15 #[pt b] w fun r w' => r = .returned (callV kd e x s) ∧ Below w.heap.size w w' := by
  obtain ⟨v', A, B, h1, h2⟩ := h.open
  exact h1.call
theorem TwoH.reply {P : Pl} (h : TwoH W w p c p' c' C L C' L' b kd e x s T T' bp bg R) (hk : T.Ok P C) (y : Value) (hy : T.reply = y) : Calls Try.prog 17 #[pt b] w fun r w' => r = .returned y ∧ Below w.heap.size w w' := by
  obtain ⟨v', A, B, h1, h2⟩ := h.open
  exact hy ▸ h1.reply hk
/-- A step of the task. -/
theorem TwoH.task {P : Pl} {now : Int} (h : TwoH W w p c p' c' C L C' L' b kd e x s T T' bp bg R) (hk : T.Ok P C) (n0 : 0 ≤ now) (hL : L.length < 1000000000) :
    Calls Try.prog 20 #[pt b, pt p, i64 now] w fun r w' => ∃ z, T.ask C z ∧ r = .returned (.bool ((T.step P C now z).ph != 0)) ∧ TwoH W w' p c p' c' (T.cells P C now) (L ++ T.ev P C now) C' L' b kd e x s (T.step P C now z) T' bp bg R := by
  obtain ⟨v', A, B, h1, h2⟩ := h.open
  refine (h1.step hk n0 hL).mono ?_
  rintro r w' ⟨z, h3, h4, h5⟩
  exact ⟨z, h3, h4, h2 _ _ _ _ _ h5⟩
/-- A step of the put. -/
theorem TwoH.put {P : Pl} {now : Int} {k : Pu} (h : TwoH W w p c p' c' C L C' L' b kd e x s T (.pu k) bp bg R) (hk : (Wk.pu k).Ok P C') (n0 : 0 ≤ now) (hL : L'.length < 1000000000) :
    Calls Try.prog 19 #[pt bp, pt p', i64 now] w fun r w' => ∃ z, (Wk.pu k).ask C' z ∧ r = .returned (i64 ((Wk.pu k).step P C' now z).ph) ∧ TwoH W w' p c p' c' C L ((Wk.pu k).cells P C' now) (L' ++ (Wk.pu k).ev P C' now) b kd e x s T ((Wk.pu k).step P C' now z) bp bg R := by
  obtain ⟨v', b1, b2, bs, gs, bt, g, hg, h⟩ := h
  refine (h.other (Q := fun r A B => r = .returned (i64 (k.step P.m P.nb P.h0 C' now).ph) ∧ ∃ v2, A = tMem W.heap.size p' c' v2 (k.cells P.N P.nb C' now) (L' ++ k.ev P.N P.nb P.h0 C' now) ∧ B = tPu W.heap.size bp b1 b2 (k.step P.m P.nb P.h0 C' now)) (fun R' h' => ?_)).mono ?_
  · refine (PuHold.call (R := R') h' hk n0 hL).mono ?_
    rintro r w' ⟨h1, v2, h2⟩
    exact ⟨_, _, ⟨h1, v2, rfl, rfl⟩, h2⟩
  · rintro r w' ⟨A, B, ⟨h1, v2, rfl, rfl⟩, h2⟩
    exact ⟨0, trivial, h1, v2, b1, b2, bs, gs, bt, g, hg, h2⟩
/-- A step of the get. -/
theorem TwoH.get {P : Pl} {now : Int} {k : Ge} (h : TwoH W w p c p' c' C L C' L' b kd e x s T (.ge k) bp bg R) (hk : (Wk.ge k).Ok P C') (hL : L'.length < 1000000000) :
    Calls Try.prog 18 #[pt bg, pt p'] w fun r w' => ∃ z, (Wk.ge k).ask C' z ∧ r = .returned (i64 ((Wk.ge k).step P C' now z).ph) ∧ TwoH W w' p c p' c' C L ((Wk.ge k).cells P C' now) (L' ++ (Wk.ge k).ev P C' now) b kd e x s T ((Wk.ge k).step P C' now z) bp bg R := by
  obtain ⟨v', bs, gs, bt, b1, b2, q, hq, h⟩ := h
  refine (h.other (Q := fun r A B => ∃ z, k.ask C' z ∧ r = .returned (i64 (k.step P.N P.hw C' z).ph) ∧ ∃ v2 bs2 gs2 bt2, A = tMem W.heap.size p' c' v2 (k.cells P.N P.hw C') (L' ++ k.ev P.N P.hw C') ∧ B = tGe W.heap.size bg bs2 gs2 bt2 (k.step P.N P.hw C' z)) (fun R' h' => ?_)).mono ?_
  · refine (GeH.call (R := R') ⟨v', bs, gs, bt, h'⟩ hk.1 hL).mono ?_
    rintro r w' ⟨z, h0, h1, v2, bs2, gs2, bt2, h2⟩
    exact ⟨_, _, ⟨z, h0, h1, v2, bs2, gs2, bt2, rfl, rfl⟩, h2⟩
  · rintro r w' ⟨A, B, ⟨z, h0, h1, v2, bs2, gs2, bt2, rfl, rfl⟩, h2⟩
    exact ⟨z, h0, h1, v2, bs2, gs2, bt2, b1, b2, q, hq, h2⟩
/-- What they have, where the one is done. -/
theorem TwoH.value {P : Pl} (h : TwoH W w p c p' c' C L C' L' b kd e x s T T' bp bg R) (hk : T'.Ok P C') (y : Int) (hy : T'.rv = y) : Calls Try.prog 22 #[pt bg] w fun r w' => r = .returned (u64 y) ∧ Below w.heap.size w w' := by
  cases T' with
  | pu k =>
    obtain ⟨v', b1, b2, bs, gs, bt, g, hg, h⟩ := h
    have h1 : IsGe W.heap.size w bg bs gs bt g := h.at 2 rfl
    have h2 := gevalue_any W.heap.size w bg bs gs bt g h1 (fun h => by omega)
    rw [show g.val = y by rw [← hy]; unfold Ge.val; rw [if_neg (by omega)]; rfl] at h2
    exact quiet_below h2
  | ge k =>
    obtain ⟨v', bs, gs, bt, b1, b2, q, hq, h⟩ := h
    have h1 : IsGe W.heap.size w bg bs gs bt k := h.at 1 rfl
    have h2 := gevalue_any W.heap.size w bg bs gs bt k h1 hk.2
    rw [show k.val = y from hy] at h2
    exact quiet_below h2
theorem TwoH.stamp (h : TwoH W w p c p' c' C L C' L' b kd e x s T T' bp bg R) (hp : T'.ph = 1) (y y' : Int) (hy : T'.rlo = y) (hy' : T'.rhi = y') : Calls Try.prog 23 #[pt bp] w fun r w' => r = .returned (st y y') ∧ Below w.heap.size w w' := by
  cases T' with
  | pu k =>
    obtain ⟨v', b1, b2, bs, gs, bt, g, hg, h⟩ := h
    have h1 : IsPu w bp b1 b2 k := (h.at 1 rfl : (tPu W.heap.size bp b1 b2 k).P w).1
    exact pustamp_at y y' hp hy hy' h1
  | ge k =>
    obtain ⟨v', bs, gs, bt, b1, b2, q, hq, h⟩ := h
    have h1 : IsPu w bp b1 b2 q := (h.at 2 rfl : (tPu W.heap.size bp b1 b2 q).P w).1
    have h2 := pustamp_no w bp b1 b2 q (by omega) h1
    rw [← hy, ← hy']
    exact h2
theorem TwoH.more (h : TwoH W w p c p' c' C L C' L' b kd e x s T T' bp bg R) (k : Below w.heap.size w w') (ok : A.Ok W.heap.size) (hP : A.P w') (hF : ∀ q, A.F q → w.heap.size ≤ q) : TwoH W w' p c p' c' C L C' L' b kd e x s T T' bp bg (R ++ [A]) := by
  obtain ⟨v', A1, B1, h1, h2⟩ := h.open
  exact h2 _ _ _ _ _ (h1.more k ok hP hF)
theorem TwoH.less {Q : List Thing} (h : TwoH W w p c p' c' C L C' L' b kd e x s T T' bp bg (R ++ Q)) : TwoH W w p c p' c' C L C' L' b kd e x s T T' bp bg R := by
  obtain ⟨v', A1, B1, h1, h2⟩ := h.open
  exact h2 _ _ _ _ _ (TsH.less (R := _ :: _ :: _ :: R) h1)
theorem TwoH.at (h : TwoH W w p c p' c' C L C' L' b kd e x s T T' bp bg R) (i : Nat) (hi : R[i]? = some A) : A.P w := by
  obtain ⟨v', A1, B1, h1, h2⟩ := h.open
  exact h1.at (i + 3) hi
theorem TwoH.setB {bb : Nat} {xs : List Value} (h : TwoH W w p c p' c' C L C' L' b kd e x s T T' bp bg R) (i : Nat) (hi : R[i]? = some (tObj W.heap.size bb xs)) (j : Nat) (u : Value) : TwoH W (w.setCell ⟨bb, j, none⟩ u) p c p' c' C L C' L' b kd e x s T T' bp bg (R.set i (tObj W.heap.size bb (xs.set j u))) := by
  obtain ⟨v', A1, B1, h1, h2⟩ := h.open
  exact h2 _ _ _ _ _ (h1.setB (i + 3) hi j u)
theorem TwoH.count1 (h : TwoH W w p c p' c' C L C' L' b kd e x s T T' bp bg R) (l : Nat) (hl : L.length = l) : Calls Try.prog 21 #[pt p] w fun r w' => r = .returned (i64 l) ∧ Below w.heap.size w w' := by
  obtain ⟨v, h⟩ := h.mem1
  exact count0_at W.heap.size w p c v C L l h hl
theorem TwoH.count2 (h : TwoH W w p c p' c' C L C' L' b kd e x s T T' bp bg R) (l : Nat) (hl : L'.length = l) : Calls Try.prog 21 #[pt p'] w fun r w' => r = .returned (i64 l) ∧ Below w.heap.size w w' := by
  obtain ⟨v, h⟩ := h.mem2
  exact count0_at W.heap.size w p' c' v C' L' l h hl
end

/-- A put and a get are begun beside a task. -/
theorem TwoH.begun {W w w1 w2 : World} {p c p' c' b : Nat} {v' : Value} {C : List Int} {L : List Ev} {kd e x s0 t s so d who start m : Int} {N : Nat} (take : Bool) {bp b1 b2 bg bs gs : Nat} (h : TsH W w p c C L b kd e x s0 (wk0 t s so d who take e x start m N) [tMem W.heap.size p' c' v' C L])
    (k1 : Below w.heap.size w w1) (hp : IsPu w1 bp b1 b2 (pu0 t s so d who e x m)) (np : ∀ i, PuB bp b1 b2 i → w.heap.size ≤ i)
    (k2 : Below w1.heap.size w1 w2) (hg : IsGe W.heap.size w2 bg bs gs none (ge0 t s so d who e start N)) (ng : ∀ i, GeB bg bs gs none i → w1.heap.size ≤ i) :
    TwoH W w2 p c p' c' C L C L b kd e x s0 (wk0 t s so d who take e x start m N) (wk0 t s so d who take e x start m N) bp bg [] := by
  have h1 := h.more k1 (tPu_ok W.heap.size bp b1 b2 _) ⟨hp, fun i hi => Nat.le_trans h.size (np i hi)⟩ np
  have h2 := h1.more k2 (tGe_ok W.heap.size bg bs gs none _) hg ng
  cases take with
  | false => exact ⟨v', b1, b2, bs, gs, none, _, rfl, h2⟩
  | true =>
    refine ⟨v', bs, gs, none, b1, b2, _, (rfl : (pu0 t s so d who e x m).ph = 0), ?_⟩
    exact h2.sel (fun i => if i = 0 then 0 else if i = 1 then 2 else if i = 2 then 1 else i) (fun i A hi => by
      match i with
      | 0 => exact hi
      | 1 => exact hi
      | 2 => exact hi
      | i + 3 => simp at hi) (fun i j hi hj he => by
      simp only [List.length_cons, List.length_nil] at hi hj
      split at he <;> split at he <;> (try split at he) <;> (try split at he) <;> (try split at he) <;> (try split at he) <;> omega)

end Go.Proofs.Ytemaghebpnjmoaa
