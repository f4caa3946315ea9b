/-
  A task of either kind, as data: a step of it, its reply, what may be in it; what a call holds that has cells and a task, with the contracts of all that is done with it; a task that is done while nobody else does anything. No condition.
-/
import Derived.Test.YtemaghebpnjmoaaTaskLaw
import Derived.Test.YtemaghebpnjmoaaGetStepsPure
import Derived.Test.YtemaghebpnjmoaaAPut
namespace Go.Proofs.Ytemaghebpnjmoaa
open Go.RowKit
set_option linter.unusedVariables false

/-- What does it. -/
inductive Wk where
  | pu (k : Pu)
  | ge (k : Ge)

/-- Of a thread: how many places there are, its first place, the first number's cell, the first hazard's, its own hazard's. -/
structure Pl where
  N : Nat
  m : Int
  nb : Nat
  h0 : Nat
  hw : Nat

def Wk.ph : Wk → Int
  | .pu k => k.ph
  | .ge k => k.ph
def Wk.step (T : Wk) (P : Pl) (C : List Int) (now z : Int) : Wk := match T with
  | .pu k => .pu (k.step P.m P.nb P.h0 C now)
  | .ge k => .ge (k.step P.N P.hw C z)
def Wk.cells (T : Wk) (P : Pl) (C : List Int) (now : Int) : List Int := match T with
  | .pu k => k.cells P.N P.nb C now
  | .ge k => k.cells P.N P.hw C
def Wk.ev (T : Wk) (P : Pl) (C : List Int) (now : Int) : List Ev := match T with
  | .pu k => k.ev P.N P.nb P.h0 C now
  | .ge k => k.ev P.N P.hw C
def Wk.ask (T : Wk) (C : List Int) (z : Int) : Prop := match T with
  | .pu _ => True
  | .ge k => k.ask C z
def Wk.Ok (T : Wk) (P : Pl) (C : List Int) : Prop := match T with
  | .pu k => k.Ok P.N P.m P.nb P.h0 C
  | .ge k => k.Ok P.N P.hw C ∧ (k.ph = 1 → k.ta ≠ none)
def Wk.reply (T : Wk) : Value := match T with
  | .pu k => k.reply
  | .ge k => k.reply

section
variable {T : Wk} {P : Pl} {C : List Int} {now z : Int}

theorem Wk.rest (h : T.ph ≠ 0) : T.step P C now z = T ∧ T.cells P C now = C ∧ T.ev P C now = [] ∧ T.ask C z := by
  cases T with
  | pu k =>
    have h' : k.ph ≠ 0 := h
    refine ⟨?_, ?_, ?_, trivial⟩
    · show Wk.pu (k.step P.m P.nb P.h0 C now) = _
      rw [show k.step P.m P.nb P.h0 C now = k from if_pos h']
    · exact if_pos h'
    · exact if_pos h'
  | ge k =>
    have h' : k.ph ≠ 0 := h
    refine ⟨?_, ?_, ?_, fun h => absurd h h'⟩
    · show Wk.ge (k.step P.N P.hw C z) = _
      rw [show k.step P.N P.hw C z = k from if_pos h']
    · exact if_pos h'
    · exact if_pos h'
theorem Wk.cells_len : (T.cells P C now).length = C.length := by
  cases T with
  | pu k => exact k.cells_len P.N P.nb C now
  | ge k => exact k.cells_len P.N P.hw C
theorem Wk.ev_le : (T.ev P C now).length ≤ 1 := by
  cases T with
  | pu k => exact k.ev_le P.N P.nb P.h0 C now
  | ge k => exact k.ev_le P.N P.hw C
theorem Ge.has_step {k : Ge} {N hz : Nat} (h : k.ph = 1 → k.ta ≠ none) : (k.step N hz C z).ph = 1 → (k.step N hz C z).ta ≠ none := by
  unfold Ge.step
  split
  · exact h
  · rename_i hp
    have hp0 : k.ph = 0 := Classical.not_not.1 hp
    split
    · rename_i hta
      unfold Ge.read
      split
      · intro h1
        have h1' : k.ph = 1 := h1
        omega
      · split
        · intro h1
          exact absurd h1 (by simp)
        · intro _ h1
          cases h1
    · unfold Ge.grab
      split
      · intro _ h1
        cases h1
      · split
        · intro h1
          have h1' : k.ph = 1 := h1
          omega
        · intro _ h1
          cases h1
end

/-- Cells and a task at b, and what else the call holds. -/
def TsH (W w : World) (p c : Nat) (C : List Int) (L : List Ev) (b : Nat) (kd e x s : Int) (T : Wk) (R : List Thing) : Prop := match T with
  | .pu k => ∃ v bp b1 b2, PuHold W w p c v C L bp b1 b2 k (tTask W b kd e x s (wPut bp) :: R)
  | .ge k => ∃ bg, GeH W w p c C L bg k (tTask W b kd e x s (wGet bg) :: R)

section
variable {W w w' : World} {p c b : Nat} {C : List Int} {L : List Ev} {T : Wk} {R : List Thing} {kd e x s : Int}

theorem TsH.later (h : TsH W w p c C L b kd e x s T R) (k : Below w.heap.size w w') : TsH W w' p c C L b kd e x s T R := by
  cases T with
  | pu k' =>
    obtain ⟨v, bp, b1, b2, h⟩ := h
    exact ⟨v, bp, b1, b2, h.later k⟩
  | ge k' =>
    obtain ⟨bg, h⟩ := h
    exact ⟨bg, h.later k⟩
theorem TsH.drew (h : TsH W w p c C L b kd e x s T R) : TsH W w.drew p c C L b kd e x s T R := h.later (Below.refl _ _).drew
theorem TsH.below (h : TsH W w p c C L b kd e x s T R) : Below W.heap.size W w := by
  cases T with
  | pu k' =>
    obtain ⟨v, bp, b1, b2, h⟩ := h
    exact h.below
  | ge k' =>
    obtain ⟨bg, h⟩ := h
    exact h.below
theorem TsH.size (h : TsH W w p c C L b kd e x s T R) : W.heap.size ≤ w.heap.size := h.below.size
theorem TsH.mem (h : TsH W w p c C L b kd e x s T R) : ∃ v, IsMem W.heap.size w p c v C L := by
  cases T with
  | pu k' =>
    obtain ⟨v, bp, b1, b2, h⟩ := h
    exact ⟨v, h.mem⟩
  | ge k' =>
    obtain ⟨bg, h⟩ := h
    exact h.mem
theorem TsH.fit (h : TsH W w p c C L b kd e x s T R) : ∀ j, 0 ≤ C.getD j 0 ∧ C.getD j 0 ≤ 18446744073709551615 := by
  obtain ⟨v, h⟩ := h.mem
  exact h.fit
theorem TsH.over (h : TsH W w p c C L b kd e x s T R) : Calls Try.prog 16 #[pt b] w fun r w' => r = .returned (.bool (T.ph != 0)) ∧ Below w.heap.size w w' := by
  cases T with
  | pu k' =>
    obtain ⟨v, bp, b1, b2, h⟩ := h
    exact quiet_below (tover_put h.obj h.pu)
  | ge k' =>
    obtain ⟨bg, h⟩ := h
    exact quiet_below h.tover
theorem TsH.obj (h : TsH W w p c C L b kd e x s T R) : ∃ wk, IsObj w b (taskL kd e x s wk) := by
  cases T with
  | pu k' =>
    obtain ⟨v, bp, b1, b2, h⟩ := h
    exact ⟨_, h.obj⟩
  | ge k' =>
    obtain ⟨bg, h⟩ := h
    exact ⟨_, h.obj⟩
theorem TsH.call (h : TsH W w p c C L b kd e x s T R) : Calls Try.prog 15 #[pt b] w fun r w' => r = .returned (callV kd e x s) ∧ Below w.heap.size w w' := by
  obtain ⟨wk, h⟩ := h.obj
  exact tkcall_any h
theorem TsH.reply {P : Pl} (h : TsH W w p c C L b kd e x s T R) (hk : T.Ok P C) : Calls Try.prog 17 #[pt b] w fun r w' => r = .returned T.reply ∧ Below w.heap.size w w' := by
  cases T with
  | pu k' =>
    obtain ⟨v, bp, b1, b2, h⟩ := h
    exact h.treply
  | ge k' =>
    obtain ⟨bg, h⟩ := h
    exact h.treply hk.2
/-- A step. -/
theorem TsH.step {P : Pl} {now : Int} (h : TsH W w p c C L b kd e x s T R) (hk : T.Ok P C) (n0 : 0 ≤ now) (hL : L.length < 1000000000) :
    Calls Try.prog 20 #[pt b, pt p, i64 now] w fun r w' => ∃ z, T.ask C z ∧ r = .returned (.bool ((T.step P C now z).ph != 0)) ∧ TsH W w' p c (T.cells P C now) (L ++ T.ev P C now) b kd e x s (T.step P C now z) R := by
  cases T with
  | pu k' =>
    obtain ⟨v, bp, b1, b2, h⟩ := h
    refine (h.tstep hk n0 hL).mono ?_
    rintro r w' ⟨h1, v', h2⟩
    exact ⟨0, trivial, h1, v', bp, b1, b2, h2⟩
  | ge k' =>
    obtain ⟨bg, h⟩ := h
    refine (h.tstep hk.1 hL).mono ?_
    rintro r w' ⟨z, h0, h1, h2⟩
    exact ⟨z, h0, h1, bg, h2⟩
end

/-- A task that is begun. -/
def wk0 (t s so d who : Int) (take : Bool) (e x start m : Int) (N : Nat) : Wk := if take then .ge (ge0 t s so d who e start N) else .pu (pu0 t s so d who e x m)
abbrev kdI (take : Bool) : Int := if take then 1 else 0
theorem TsH.begun {W w : World} {p c : Nat} {v : Value} {C : List Int} {L : List Ev} {R : List Thing} {t s so d who e x start m : Int} {N : Nat} (take : Bool) {kd : Int} (hk : kdI take = kd) (h : Hold W w (tMem W.heap.size p c v C L :: R)) (hl : Lay t s N) (w0 : 0 ≤ who) (w1 : who < t) (hm : who * s = m) (m0 : 0 ≤ m) (m1 : m + s ≤ N) (he : e = 0 ∨ e = 1) :
    Calls Try.prog 12 #[cf t s so d, i64 who, callV kd e x start] w fun r w' => ∃ b, r = .returned (pt b) ∧ TsH W w' p c C L b kd e x start (wk0 t s so d who take e x start m N) R := by
  subst hk
  cases take with
  | false =>
    refine (tknew_put t s so d who e x start m hl w0 w1 hm m0 m1 he).mono ?_
    rintro r w' ⟨b, bp, b1, b2, h1, h2, h3, h4, h5, h6⟩
    exact ⟨b, h1, v, bp, b1, b2, PuHold.tbegun h h4 h2 h3 h5 h6⟩
  | true =>
    refine (tknew_get (base := W.heap.size) t s so d who e x start hl he h.size).mono ?_
    rintro r w' ⟨b, bg, bs, gs, h1, h2, h3, h4, h5, h6⟩
    exact ⟨b, h1, bg, GeH.tbegun h h4 h2 h3 h5 h6⟩

set_option maxHeartbeats 1000000 in
theorem make_any (take right : Bool) (x start : Int) (w : World) :
    Calls Try.prog 11 #[.bool take, .bool right, u64 x, i64 start] w fun r w' => r = .returned (callV (kdI take) (kdI right) x start) ∧ Below w.heap.size w w' := by
  cases take <;> cases right
  all_goals
    go_enter Try.func11, Try.ntmps11
    go_wp2
    exact bodyPost_ret (v := callV _ _ x start) (by simp [results, Try.results11, go_sem]) rfl ⟨rfl, by repeat' first | exact below_new (below_new (Below.refl _ _) _) _ | refine below_set ?_ (by simp) _⟩
theorem make_at (take right : Bool) (x start kd e : Int) (w : World) (hk : kdI take = kd) (he : kdI right = e) :
    Calls Try.prog 11 #[.bool take, .bool right, u64 x, i64 start] w fun r w' => r = .returned (callV kd e x start) ∧ Below w.heap.size w w' := hk ▸ he ▸ make_any take right x start w

/-- Whether it gets. -/
def Wk.take : Wk → Bool
  | .pu _ => false
  | .ge _ => true
theorem Wk.take_step {T : Wk} {P : Pl} {C : List Int} {now z : Int} : (T.step P C now z).take = T.take := by
  cases T <;> rfl
theorem wk0_take {t s so d who e x start m : Int} {N : Nat} (take : Bool) : (wk0 t s so d who take e x start m N).take = take := by
  cases take <;> rfl
theorem Wk.reply_form (T : Wk) : ∃ ok v lo hi, T.reply = replyV ok v lo hi ∧ (T.take = true → lo = 0 ∧ hi = 0) ∧ (T.take = false → v = 0) := by
  cases T with
  | pu k =>
    show ∃ ok v lo hi, k.reply = replyV ok v lo hi ∧ (false = true → lo = 0 ∧ hi = 0) ∧ (false = false → v = 0)
    unfold Pu.reply
    split
    · exact ⟨_, _, _, _, rfl, (fun h => by cases h), fun _ => rfl⟩
    · exact ⟨_, _, _, _, rfl, (fun h => by cases h), fun _ => rfl⟩
  | ge k =>
    show ∃ ok v lo hi, k.reply = replyV ok v lo hi ∧ (true = true → lo = 0 ∧ hi = 0) ∧ (true = false → v = 0)
    unfold Ge.reply
    split
    · exact ⟨_, _, _, _, rfl, fun _ => ⟨rfl, rfl⟩, (fun h => by cases h)⟩
    · exact ⟨_, _, _, _, rfl, fun _ => ⟨rfl, rfl⟩, (fun h => by cases h)⟩

section
variable {W w w' : World} {p c b : Nat} {C : List Int} {L : List Ev} {T : Wk} {R : List Thing} {kd e x s : Int} {A : Thing}
theorem TsH.more (h : TsH W w p c C L b kd e x s T R) (k : Below w.heap.size w w') (ok : A.Ok W.heap.size) (hP : A.P w') (hF : ∀ q, A.F q → w.heap.size ≤ q) : TsH W w' p c C L b kd e x s T (R ++ [A]) := by
  cases T with
  | pu k' =>
    obtain ⟨v, bp, b1, b2, h⟩ := h
    exact ⟨v, bp, b1, b2, Hold.more (l := _ :: _ :: _ :: R) h k ok hP hF⟩
  | ge k' =>
    obtain ⟨bg, v, bs, gs, bt, h⟩ := h
    exact ⟨bg, v, bs, gs, bt, Hold.more (l := _ :: _ :: _ :: R) h k ok hP hF⟩
theorem TsH.at (h : TsH W w p c C L b kd e x s T R) (i : Nat) (hi : R[i]? = some A) : A.P w := by
  cases T with
  | pu k' =>
    obtain ⟨v, bp, b1, b2, h⟩ := h
    exact Hold.has h (i + 3) A hi
  | ge k' =>
    obtain ⟨bg, v, bs, gs, bt, h⟩ := h
    exact Hold.has h (i + 3) A hi
theorem TsH.count (h : TsH W w p c C L b kd e x s T R) (l : Nat) (hl : L.length = l) : Calls Try.prog 21 #[pt p] w fun r w' => r = .returned (i64 l) ∧ Below w.heap.size w w' := by
  obtain ⟨v, h⟩ := h.mem
  exact count0_at W.heap.size w p c v C L l h hl
end

/-- A task that is done alone, behind n steps (of which some may have been for nothing). -/
def TsA (T : Wk) (P : Pl) (C C0 : List Int) (n : Nat) (e : Int) : Prop := match T with
  | .pu k => k.Ok P.N P.m P.nb P.h0 C ∧ (k.ph = 0 → (n : Int) + k.rem P.m ≤ 27)
  | .ge k => GX k C C0 P.N P.hw n e ∧ (k.ph = 1 → k.ta ≠ none)
section
variable {T : Wk} {P : Pl} {C C0 : List Int} {n : Nat} {e now z : Int}
theorem TsA.ok (h : TsA T P C C0 n e) : T.Ok P C := by
  cases T with
  | pu k => exact h.1
  | ge k => exact ⟨h.1.ok, h.2⟩
theorem TsA.step (h : TsA T P C C0 n e) (ha : T.ask C z) (n0 : 0 ≤ now) (hf : ∀ j, 0 ≤ C.getD j 0 ∧ C.getD j 0 ≤ 18446744073709551615) : TsA (T.step P C now z) P (T.cells P C now) C0 (n + 1) e := by
  cases T with
  | pu k =>
    have h1 : k.Ok P.N P.m P.nb P.h0 C := h.1
    have h2 : k.ph = 0 → (n : Int) + k.rem P.m ≤ 27 := h.2
    obtain ⟨o1, o2⟩ := h1.next_ (now := now) n0 (fun j => (hf j).1)
    refine ⟨o1.cells (k.cells_len _ _ _ _), fun hp => ?_⟩
    have hp' : (k.step P.m P.nb P.h0 C now).ph = 0 := hp
    have hk : k.ph = 0 := by
      by_cases hk : k.ph = 0
      · exact hk
      · rw [show k.step P.m P.nb P.h0 C now = k from if_pos hk] at hp'
        exact absurd hp' hk
    have := o2 hk
    have := h2 hk
    show ((n + 1 : Nat) : Int) + (k.step P.m P.nb P.h0 C now).rem P.m ≤ 27
    omega
  | ge k => exact ⟨GX.step h.1 ha hf, Ge.has_step h.2⟩
theorem TsA.over (h : TsA T P C C0 n e) (hN : P.N ≤ 16) (hn : 40 ≤ n) : T.ph ≠ 0 := by
  cases T with
  | pu k =>
    intro hp
    have h1 : k.Ok P.N P.m P.nb P.h0 C := h.1
    have h2 := h.2 hp
    have := Pu.rem_pos h1 hp
    omega
  | ge k =>
    show k.ph ≠ 0
    rcases h.1.done (by omega) with ⟨h1, _⟩ | ⟨j, h1, _⟩ <;> omega
end

theorem u64_wf {a : Int} (h : (Lit.int .u64 a).wf = true) : 0 ≤ a ∧ a ≤ 18446744073709551615 := by
  simp only [Lit.wf, Bool.and_eq_true, decide_eq_true_eq] at h
  exact h
theorem TsH.rest {W w : World} {p c b : Nat} {C : List Int} {L : List Ev} {T : Wk} {R : List Thing} {kd e x s : Int} {P : Pl} {now : Int} (h : TsH W w p c C L b kd e x s T R) (hk : T.Ok P C) (n0 : 0 ≤ now) (hL : L.length < 1000000000) (hp : T.ph ≠ 0) :
    Calls Try.prog 20 #[pt b, pt p, i64 now] w fun r w' => r = .returned (.bool true) ∧ TsH W w' p c C L b kd e x s T R := by
  refine (h.step hk n0 hL).mono ?_
  rintro r w' ⟨z, _, h1, h2⟩
  obtain ⟨r1, r2, r3, _⟩ := Wk.rest (P := P) (C := C) (now := now) (z := z) hp
  rw [r1] at h1 h2
  rw [r2, r3, List.append_nil] at h2
  exact ⟨by rw [h1, show (T.ph != 0) = true by simp [hp]], h2⟩
theorem TsH.over' {W w : World} {p c b : Nat} {C : List Int} {L : List Ev} {T : Wk} {R : List Thing} {kd e x s : Int} (h : TsH W w p c C L b kd e x s T R) (q : Bool) (hq : (T.ph != 0) = q) : Calls Try.prog 16 #[pt b] w fun r w' => r = .returned (.bool q) ∧ Below w.heap.size w w' := hq ▸ h.over
theorem TsA.start {t s so d who e x start m : Int} {N nb h0 hw : Nat} {C : List Int} (take : Bool) (hl : Lay t s N) (hlen : (C.length : Int) = 2 * N + 2 * t) (t4 : t ≤ 4) (s4 : s ≤ 4) (hh0 : (h0 : Int) = 2 * N) (hhw : (hw : Int) = 2 * N + who) (hnb : (nb : Int) = 2 * N + t) (w0 : 0 ≤ who) (w1 : who < t) (hm : who * s = m) (m0 : 0 ≤ m) (m1 : m + s ≤ N)
    (o0 : 0 ≤ so) (o1 : so ≤ 4) (d0 : 0 ≤ d) (d1 : d ≤ 3) (he : e = 0 ∨ e = 1) (x0 : 0 ≤ x) (x1 : x ≤ 18446744073709551615) : TsA (wk0 t s so d who take e x start m N) ⟨N, m, nb, h0, hw⟩ C C 0 e := by
  cases take with
  | false =>
    refine ⟨pu0_ok (nb := nb) hl hh0 hnb (by omega) w0 w1 hm m0 m1 o0 o1 d0 (by omega) (by omega) (by omega) x0 x1, fun _ => ?_⟩
    show ((0 : Nat) : Int) + (pu0 t s so d who e x m).rem m ≤ 27
    rw [pu0_rem]
    obtain ⟨Q, q, h1, h2, h3, h4, h5, h6⟩ := pmost_le (so := so) hl.t1 t4 hl.s1 s4 d0 d1
    omega
  | true => exact ⟨GX.start hl hlen hhw w0 w1 he, fun h => by exact absurd h (by show ¬ (0 : Int) = 1; decide)⟩

end Go.Proofs.Ytemaghebpnjmoaa
