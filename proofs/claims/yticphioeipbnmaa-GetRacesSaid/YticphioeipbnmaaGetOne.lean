/-
  Plain lemmas on gets: what a call holds that has cells and a get; what stands at the end of an order; what is right stays right; a get that is done while nobody else does anything, step by step, from its beginning to its end. No condition.
-/
import Derived.Test.YticphioeipbnmaaGetLaw
import Derived.Test.YticphioeipbnmaaSnapLaw
import Derived.Test.YticphioeipbnmaaTakeEqs
namespace Go.Proofs.Yticphioeipbnmaa
open Go.RowKit
set_option linter.unusedVariables false

theorem gzeros (n j : Nat) : (List.replicate n (0 : Int)).getD j 0 = 0 := by
  rw [List.getD_eq_getElem?_getD, List.getElem?_replicate]
  split <;> rfl

section
variable {W w w' : World} {l : List Thing}
/-- Two things are turned, both may grow. -/
theorem Hold.turn3 (h : Hold W w l) (i j : Nat) {A A' B B' : Thing} (hne : i ≠ j) (hi : l[i]? = some A) (hj : l[j]? = some B) (k : Keep (fun q => B.F q ∨ A.F q) w w') (okA : A'.Ok W.heap.size) (okB : B'.Ok W.heap.size) (hA : A'.P w') (hB : B'.P w')
    (hFA : ∀ q, A'.F q → A.F q ∨ w.heap.size ≤ q) (hFB : ∀ q, B'.F q → B.F q ∨ w.heap.size ≤ q) (hAB : ∀ q, A'.F q → ¬ B'.F q) : Hold W w' ((l.set i A').set j B') := by
  have hj' : (l.set i A')[j]? = some B := by rw [List.getElem?_set, if_neg hne]; exact hj
  have hltA := fun q => (h.ok i A hi).lt w q (h.has i A hi)
  have hltB := fun q => (h.ok j B hj).lt w q (h.has j B hj)
  have hold : ∀ (e : Nat) (E : Thing), l[e]? = some E → i ≠ e → j ≠ e → E.P w' := fun e E he h1 h2 => (h.ok e E he).keep w w' _ (h.has e E he) k (fun q hq hc => hc.elim (h.apart e j E B he hj (fun x => h2 x.symm) q hq) (h.apart e i E A he hi (fun x => h1 x.symm) q hq))
  have cases2 : ∀ (e : Nat) (E : Thing), ((l.set i A').set j B')[e]? = some E → (e = j ∧ E = B') ∨ (e = i ∧ E = A') ∨ (i ≠ e ∧ j ≠ e ∧ l[e]? = some E) := by
    intro e E he
    rcases set_cases hj' he with ⟨h1, rfl⟩ | ⟨h1, he⟩
    · exact .inl ⟨h1.symm, rfl⟩
    · rcases set_cases hi he with ⟨h2, rfl⟩ | ⟨h2, he⟩
      · exact .inr (.inl ⟨h2.symm, rfl⟩)
      · exact .inr (.inr ⟨h2, h1, he⟩)
  have AE : ∀ (e : Nat) (E : Thing) (q : Nat), l[e]? = some E → i ≠ e → E.F q → A'.F q → False := fun e E q he h1 h2 h3 => by
    rcases hFA q h3 with h4 | h4
    · exact h.apart i e A E hi he h1 q h4 h2
    · have := ((h.ok e E he).lt w q (h.has e E he) h2).2
      omega
  have BE : ∀ (e : Nat) (E : Thing) (q : Nat), l[e]? = some E → j ≠ e → E.F q → B'.F q → False := fun e E q he h1 h2 h3 => by
    rcases hFB q h3 with h4 | h4
    · exact h.apart j e B E hj he h1 q h4 h2
    · have := ((h.ok e E he).lt w q (h.has e E he) h2).2
      omega
  refine ⟨Nat.le_trans h.size k.size, below_keep h.below k h.size (fun q hq => hq.elim (fun h => (hltB q h).1) (fun h => (hltA q h).1)), fun e E he => ?_, fun e E he => ?_, fun e f E G he hf hef q hq hq' => ?_⟩
  · rcases cases2 e E he with ⟨_, rfl⟩ | ⟨_, rfl⟩ | ⟨_, _, he⟩
    · exact okB
    · exact okA
    · exact h.ok e E he
  · rcases cases2 e E he with ⟨_, rfl⟩ | ⟨_, rfl⟩ | ⟨h1, h2, he⟩
    · exact hB
    · exact hA
    · exact hold e E he h1 h2
  · rcases cases2 e E he with ⟨h1, rfl⟩ | ⟨h1, rfl⟩ | ⟨h1, h2, he1⟩
    · rcases cases2 f G hf with ⟨h3, rfl⟩ | ⟨h3, rfl⟩ | ⟨h3, h4, hf1⟩
      · omega
      · exact hAB q hq' hq
      · exact BE f G q hf1 h4 hq' hq
    · rcases cases2 f G hf with ⟨h3, rfl⟩ | ⟨h3, rfl⟩ | ⟨h3, h4, hf1⟩
      · exact hAB q hq hq'
      · omega
      · exact AE f G q hf1 h3 hq' hq
    · rcases cases2 f G hf with ⟨h3, rfl⟩ | ⟨h3, rfl⟩ | ⟨h3, h4, hf1⟩
      · exact BE e E q he1 h2 hq hq'
      · exact AE e E q he1 h1 hq hq'
      · exact h.apart e f E G he1 hf1 hef q hq hq'
end

def tGe (base b bs gs : Nat) (bt : Option Nat) (k : Ge) : Thing := ⟨fun w => IsGe base w b bs gs bt k, GeB b bs gs bt⟩
theorem tGe_ok (base b bs gs : Nat) (bt : Option Nat) (k : Ge) : (tGe base b bs gs bt k).Ok base :=
  ⟨fun _ _ _ h e hn => IsGe.keep h e hn, fun _ i h hi => IsGe.lt h i hi⟩

/-- Cells and a get at b, and what else the call holds. -/
def GeH (W w : World) (p c : Nat) (C : List Int) (L : List Ev) (b : Nat) (k : Ge) (R : List Thing) : Prop :=
  ∃ v bs gs bt, Hold W w (tMem W.heap.size p c v C L :: tGe W.heap.size b bs gs bt k :: R)

section
variable {W w w' : World} {p c b : Nat} {C C' : List Int} {L L' : List Ev} {k k' : Ge} {R : List Thing}
theorem GeH.later (h : GeH W w p c C L b k R) (e : Below w.heap.size w w') : GeH W w' p c C L b k R := by
  obtain ⟨v, bs, gs, bt, h⟩ := h
  exact ⟨v, bs, gs, bt, Hold.later h e⟩
theorem GeH.drew (h : GeH W w p c C L b k R) : GeH W w.drew p c C L b k R := h.later (Below.refl _ _).drew
theorem GeH.size (h : GeH W w p c C L b k R) : W.heap.size ≤ w.heap.size := by
  obtain ⟨v, bs, gs, bt, h⟩ := h
  exact h.size
theorem GeH.below (h : GeH W w p c C L b k R) : Below W.heap.size W w := by
  obtain ⟨v, bs, gs, bt, h⟩ := h
  exact h.below
theorem GeH.mem (h : GeH W w p c C L b k R) : ∃ v, IsMem W.heap.size w p c v C L := by
  obtain ⟨v, bs, gs, bt, h⟩ := h
  exact ⟨v, h.has 0 _ rfl⟩
theorem GeH.fit (h : GeH W w p c C L b k R) : ∀ j, 0 ≤ C.getD j 0 ∧ C.getD j 0 ≤ 18446744073709551615 := by
  obtain ⟨v, h⟩ := h.mem
  exact h.fit
theorem GeH.cells (h : GeH W w p c C L b k R) : ∃ v, Hold W w [tMem W.heap.size p c v C L] := by
  obtain ⟨v, bs, gs, bt, h⟩ := h
  exact ⟨v, Hold.less (l := [_]) h⟩
/-- A step. -/
theorem GeH.call {N hz : Nat} (h : GeH W w p c C L b k R) (hk : k.Ok N hz C) (hL : L.length < 1000000000) :
    Calls Try.prog 25 #[pt b, pt p] w fun r w' => ∃ z, k.ask C z ∧ r = .returned (i64 (k.step N hz C z).ph) ∧ GeH W w' p c (k.cells N hz C) (L ++ k.ev N hz C) b (k.step N hz C z) R := by
  obtain ⟨v, bs, gs, bt, h⟩ := h
  refine (gestep_any W.heap.size w b bs gs p c bt v C L k N hz hk (h.has 1 _ rfl) (h.has 0 _ rfl) (Hold.free h 0 1 (by decide) rfl rfl) h.size hL).mono ?_
  rintro r w' ⟨z, h1, h2, v', bs', gs', bt', hD, hG, hF, hA⟩
  refine ⟨z, h1, h2, v', bs', gs', bt', ?_⟩
  exact Hold.turn3 h 0 1 (by decide) rfl rfl hD.keep (tMem_ok _ _ _ _ _ _) (tGe_ok _ _ _ _ _ _) hD.mem hG (fun q hq => by
    rcases hq with h1 | h1 | h1
    · exact .inl (.inl h1)
    · exact .inl (.inr (.inl h1))
    · exact (hD.moved q h1).imp (fun h => .inr (.inr h)) id) hF (fun q hq hg => hA q hg hq)
theorem GeH.begun {v : Value} {bs gs : Nat} {bt : Option Nat} (h : Hold W w [tMem W.heap.size p c v C L]) (e : Below w.heap.size w w') (hk : IsGe W.heap.size w' b bs gs bt k) (hb : ∀ i, GeB b bs gs bt i → w.heap.size ≤ i) : GeH W w' p c C L b k [] :=
  ⟨v, bs, gs, bt, Hold.more h e (tGe_ok _ _ _ _ _ _) hk hb⟩
theorem GeH.phase (h : GeH W w p c C L b k R) (x : Int) (hx : k.ph = x) : Calls Try.prog 30 #[pt b] w fun r w' => r = .returned (i64 x) ∧ Below w.heap.size w w' := by
  obtain ⟨v, bs, gs, bt, h⟩ := h
  exact hx ▸ quiet_below (gephase_any W.heap.size w b bs gs bt k (h.has 1 _ rfl))
theorem GeH.tries (h : GeH W w p c C L b k R) (x : Int) (hx : k.tries = x) : Calls Try.prog 27 #[pt b] w fun r w' => r = .returned (i64 x) ∧ Below w.heap.size w w' := by
  obtain ⟨v, bs, gs, bt, h⟩ := h
  exact hx ▸ quiet_below (getries_any W.heap.size w b bs gs bt k (h.has 1 _ rfl))
theorem GeH.value (h : GeH W w p c C L b k R) (x : Int) (hx : k.val = x) (h1 : k.ph = 1 → k.ta ≠ none) : Calls Try.prog 28 #[pt b] w fun r w' => r = .returned (u64 x) ∧ Below w.heap.size w w' := by
  obtain ⟨v, bs, gs, bt, h⟩ := h
  exact hx ▸ quiet_below (gevalue_any W.heap.size w b bs gs bt k (h.has 1 _ rfl) h1)
end

/-- What stands at the end of an order. -/
theorem end_of_order {ws : List Int} {S : List Nat} {e z : Int} (hS : IsOrder ws S) (hz : IsEnd ws e z) :
    (S = [] ∧ z = -1) ∨ ∃ j : Nat, z = (j : Int) ∧ j < ws.length ∧ live ws j ∧ 0 < S.length ∧ (e = 0 → S.getD 0 0 = j) ∧ (e ≠ 0 → S.getD (S.length - 1) 0 = j) := by
  have hget : ∀ q (h : q < S.length), S.getD q 0 = S[q] := fun q h => by rw [List.getD_eq_getElem?_getD, List.getElem?_eq_getElem h]; rfl
  rcases hz with ⟨h1, h2⟩ | ⟨i, h1, h2, h3, h4⟩
  · refine .inl ⟨?_, h1⟩
    cases S with
    | nil => rfl
    | cons a t =>
      have := (hS.mem a).1 (List.mem_cons_self)
      exact absurd this.2 (h2 a this.1)
  · have hi := (hS.mem i).2 ⟨h2, h3⟩
    obtain ⟨q, hq, he⟩ := List.getElem_of_mem hi
    refine .inr ⟨i, h1, h2, h3, by omega, fun h0 => ?_, fun h0 => ?_⟩
    · have hm := (hS.mem S[0]).1 (List.getElem_mem (by omega))
      have h5 := h4 S[0] hm.1 hm.2
      rw [if_pos h0] at h5
      rcases (by omega : q = 0 ∨ 0 < q) with rfl | h6
      · rw [hget 0 hq]
        exact he
      · have h7 := List.pairwise_iff_getElem.1 hS.rise 0 q (by omega) hq h6
        rw [he] at h7
        omega
    · have hm := (hS.mem S[S.length - 1]).1 (List.getElem_mem (by omega))
      have h5 := h4 S[S.length - 1] hm.1 hm.2
      rw [if_neg h0] at h5
      rcases (by omega : q = S.length - 1 ∨ q < S.length - 1) with rfl | h6
      · rw [hget _ hq]
        exact he
      · have h7 := List.pairwise_iff_getElem.1 hS.rise q (S.length - 1) hq (by omega) h6
        rw [he] at h7
        omega

theorem getD_take {C : List Int} {N i : Nat} (h : i < N) : (C.take N).getD i 0 = C.getD i 0 := by
  rw [List.getD_eq_getElem?_getD, List.getElem?_take, if_pos h, ← List.getD_eq_getElem?_getD]
theorem take_of_same {X C : List Int} {N : Nat} (hX : X.length = N) (hC : N ≤ C.length) (h : ∀ j, j < N → X.getD j 0 = C.getD j 0) : X = C.take N := by
  refine List.ext_getElem (by rw [List.length_take]; omega) (fun i h1 h2 => ?_)
  have h3 := h i (by omega)
  rw [List.getD_eq_getElem?_getD, List.getD_eq_getElem?_getD, List.getElem?_eq_getElem h1, List.getElem?_eq_getElem (by omega)] at h3
  rw [List.getElem_take]
  exact h3

/-- The take behind r steps, of place j, in cells C0 that nobody else turns. -/
def tk (k : Ge) (C0 : List Int) (N j r : Nat) : Ta := { ta0 k.t k.s k.so k.d k.who j (C0.getD j 0) with next := r, value := if 3 ≤ r then C0.getD (N + j) 0 else 0 }
def tkC (C0 : List Int) (hz j r : Nat) : List Int := if r = 0 then C0 else if r ≤ 3 then C0.set hz (j + 1) else (C0.set hz (j + 1)).set j (tkW (C0.getD j 0))

/-- A get that is done alone, behind i steps. -/
structure GA (k : Ge) (C C0 : List Int) (N hz i : Nat) (T : Int := 0) : Prop where
  ok : k.Ok N hz C
  len : C.length = C0.length
  tries : k.tries = T
  at' : (k.ph = 0 ∧ k.ta = none ∧ C = C0 ∧ i < 2 * N ∧ ∃ st, Snap k.sn C0 N st i 0 (-1)) ∨
    (∃ j r : Nat, i = 2 * N + r ∧ r ≤ 4 ∧ k.ph = 0 ∧ j < N ∧ IsEnd (C0.take N) k.e j ∧ k.ta = some (tk k C0 N j r) ∧ C = tkC C0 hz j r) ∨
    (i = 2 * N ∧ k.ph = 2 ∧ IsEnd (C0.take N) k.e (-1) ∧ C = C0) ∨
    (∃ j : Nat, i = 2 * N + 5 ∧ k.ph = 1 ∧ j < N ∧ IsEnd (C0.take N) k.e j ∧ k.val = C0.getD (N + j) 0 ∧ k.ta ≠ none ∧ C = (tkC C0 hz j 4).set hz 0)


theorem Sn.step_ok {k : Sn} {n : Int} {C : List Int} (h : k.Ok n C) (hp : k.passes < 1000000) : (k.step C).Ok n C ∧ (k.step C).passes ≤ k.passes + 1 ∧ ((k.step C).ph = k.ph ∨ (k.step C).ph = 1) := by
  have h1 := h.r1; have h2 := h.r0; have h3 := h.p0; have h4 := h.N; have h5 := h.X; have hN := h.lay.n1; have ht := h.lay.t1
  have hX : (k.X.set k.slot (C.getD k.slot 0)).length = k.N := by rw [List.length_set]; exact h5
  unfold Sn.step
  split
  · split
    · refine ⟨⟨h.lay, h.N, h.len, hX, h.s0, h.s1, Int.le_refl _, by show (0 : Int) < n; omega, by show 0 ≤ k.passes + 1; omega, by show k.passes + 1 ≤ 1000000; omega⟩, by show k.passes + 1 ≤ k.passes + 1; omega, ?_⟩
      by_cases hc : 1 < k.passes + 1 ∧ (k.put (C.getD k.slot 0)).turned = false
      · exact .inr (if_pos hc)
      · exact .inl (if_neg hc)
    · exact ⟨⟨h.lay, h.N, h.len, hX, h.s0, h.s1, by show 0 ≤ k.read + 1; omega, by show k.read + 1 < n; omega, h.p0, h.p1⟩, by show k.passes ≤ k.passes + 1; omega, .inl rfl⟩
  · exact ⟨h, by omega, .inl rfl⟩
theorem Sn.Ok.cells {k : Sn} {n : Int} {C C' : List Int} (h : k.Ok n C) (e : C'.length = C.length) : k.Ok n C' :=
  ⟨h.lay, h.N, by rw [e]; exact h.len, h.X, h.s0, h.s1, h.r0, h.r1, h.p0, h.p1⟩
theorem Ta.Ok.cells' {k : Ta} {n : Int} {j jv hz : Nat} {C C' : List Int} (h : k.Ok n j jv hz C) (e : C'.length = C.length) : k.Ok n j jv hz C' :=
  ⟨h.lay, by rw [e]; exact h.len, h.w0, h.w1, h.s0, h.s1, h.hj, h.hjv, h.hhz, h.x0, h.x1, h.st⟩
theorem sn0_ok {t s so d who start : Int} {N : Nat} {C : List Int} (hl : Lay t s N) (hlen : (C.length : Int) = 2 * N + 2 * t) : (sn0 t s so d who (IntKind.u64.wrap start % N) N).Ok N C ∧ (∀ i, 0 ≤ (sn0 t s so d who (IntKind.u64.wrap start % N) N).X.getD i 0 ∧ (sn0 t s so d who (IntKind.u64.wrap start % N) N).X.getD i 0 ≤ 18446744073709551615) := by
  have hn := hl.n1; have ht := hl.t1; have hn2 := hl.n2
  obtain ⟨m1, m2, m5, m3, m4⟩ := start_mod start N (by omega) (by omega)
  exact ⟨⟨hl, rfl, hlen, List.length_replicate, m3, m4, Int.le_refl _, by show (0 : Int) < N; omega, Int.le_refl _, by show (0 : Int) ≤ 1000000; decide⟩, fun i => by show 0 ≤ (List.replicate N 0).getD i 0 ∧ (List.replicate N 0).getD i 0 ≤ 18446744073709551615; rw [gzeros]; exact ⟨Int.le_refl _, by decide⟩⟩

theorem go_phs {a : Ta} {j jv : Nat} {C : List Int} (h : a.ph = 0) : (a.go j jv C).ph = 0 ∨ (a.go j jv C).ph = 1 ∨ (a.go j jv C).ph = 2 := by
  unfold Ta.go
  repeat' split
  all_goals first | exact .inl h | exact .inr (.inl rfl) | exact .inr (.inr rfl)

/-- What never turns. -/
structure Ge.Same (k k' : Ge) : Prop where
  t : k'.t = k.t
  s : k'.s = k.s
  so : k'.so = k.so
  d : k'.d = k.d
  who : k'.who = k.who
  e : k'.e = k.e
  start : k'.start = k.start
theorem Ge.Same.refl (k : Ge) : k.Same k := ⟨rfl, rfl, rfl, rfl, rfl, rfl, rfl⟩
theorem Ge.Same.trans {a b c : Ge} (h : a.Same b) (k : b.Same c) : a.Same c := ⟨k.t.trans h.t, k.s.trans h.s, k.so.trans h.so, k.d.trans h.d, k.who.trans h.who, k.e.trans h.e, k.start.trans h.start⟩
theorem Ge.step_same (k : Ge) (N hz : Nat) (C : List Int) (z : Int) : k.Same (k.step N hz C z) := by
  unfold Ge.step
  split
  · exact .refl k
  · split
    · unfold Ge.read
      split
      · exact ⟨rfl, rfl, rfl, rfl, rfl, rfl, rfl⟩
      · split <;> exact ⟨rfl, rfl, rfl, rfl, rfl, rfl, rfl⟩
    · unfold Ge.grab
      split
      · exact ⟨rfl, rfl, rfl, rfl, rfl, rfl, rfl⟩
      · split <;> exact ⟨rfl, rfl, rfl, rfl, rfl, rfl, rfl⟩

theorem Ge.cells_len (k : Ge) (N hz : Nat) (C : List Int) : (k.cells N hz C).length = C.length := by
  unfold Ge.cells
  split
  · rfl
  · split
    · rfl
    · exact Ta.cells_len _ _ _ _
theorem Ge.ev_le (k : Ge) (N hz : Nat) (C : List Int) : (k.ev N hz C).length ≤ 1 := by
  unfold Ge.ev
  split
  · simp
  · split
    · exact Sn.ev_le _ _
    · exact Ta.ev_le _ _ _ _ _

section
variable {k : Ge} {N hz : Nat} {C C' : List Int} {z : Int}

theorem Ge.Ok.cells (h : k.Ok N hz C) (e : C'.length = C.length) : k.Ok N hz C' :=
  ⟨h.lay, by rw [e]; exact h.len, h.hzz, h.w0, h.w1, h.e, h.t0, h.t1, h.sN, h.sX, fun a b => ⟨(h.sn a b).1.cells e, (h.sn a b).2⟩, fun a x b => ⟨(h.ta a x b).1.cells' e, (h.ta a x b).2⟩⟩

theorem ta0_ok {t s so d who word : Int} {j : Nat} (hl : Lay t s N) (hlen : (C.length : Int) = 2 * N + 2 * t) (hhz : (hz : Int) = 2 * N + who) (w0 : 0 ≤ who) (w1 : who < t) (hj : j < N) (x0 : 0 ≤ word) (x1 : word ≤ 18446744073709551615) : (ta0 t s so d who j word).Ok N j (N + j) hz C :=
  ⟨hl, hlen, w0, w1, by show (0 : Int) ≤ (j : Int); omega, by show (j : Int) < N; omega, rfl, by show (N : Int) + j = ((N + j : Nat) : Int); omega, hhz.symm, x0, x1, fun _ => .inl ⟨rfl, rfl⟩⟩

/-- A step leaves what is right right. -/
theorem Ge.Ok.next (h : k.Ok N hz C) (ha : k.ask C z) (hp : k.ta = none → k.sn.passes < 1000000) (ht : k.tries < 1000000) (hf : ∀ j, 0 ≤ C.getD j 0 ∧ C.getD j 0 ≤ 18446744073709551615) :
    (k.step N hz C z).Ok N hz (k.cells N hz C) ∧ (k.step N hz C z).sn.passes ≤ max 0 (k.sn.passes + 1) ∧ (k.step N hz C z).tries ≤ k.tries + 1 ∧ k.tries ≤ (k.step N hz C z).tries := by
  obtain ⟨lay, len, hzz, w0, w1, e, t0, t1, sN, sX, sn, ta⟩ := id h
  have hn1 := lay.n1; have htt := lay.t1
  by_cases hph : k.ph ≠ 0
  · have e1 : k.step N hz C z = k := if_pos hph
    have e2 : k.cells N hz C = C := if_pos hph
    rw [e1, e2]
    exact ⟨h, by omega, by omega, by omega⟩
  · have hp0 : k.ph = 0 := Classical.not_not.1 hph
    cases hta : k.ta with
    | none =>
      have e1 : k.step N hz C z = k.read (k.sn.step C) z := by unfold Ge.step; rw [if_neg hph, hta]
      have e2 : k.cells N hz C = C := by unfold Ge.cells; rw [if_neg hph, hta]
      obtain ⟨s1, s2⟩ := sn hp0 hta
      obtain ⟨s3, s4, s5⟩ := Sn.step_ok s1 (hp hta)
      obtain ⟨x1, x2⟩ := step_X (k := k.sn) (C := C) sX hf
      rw [e1, e2]
      replace hp := hp hta
      unfold Ge.read
      split
      · rename_i hne
        exact ⟨⟨lay, len, hzz, w0, w1, e, t0, t1, x1.trans sN, x2, fun _ _ => ⟨s3, by rcases s5 with s5 | s5; (show (k.sn.step C).ph = 0; omega); exact absurd s5 hne⟩, fun _ a hh => by have hh' : k.ta = some a := hh; rw [hta] at hh'; cases hh'⟩, by show (k.sn.step C).passes ≤ _; omega, by show k.tries ≤ k.tries + 1; omega, Int.le_refl _⟩
      · rename_i hd
        have hd1 : (k.sn.step C).ph = 1 := Classical.not_not.1 hd
        split
        · exact ⟨⟨lay, len, hzz, w0, w1, e, t0, t1, x1.trans sN, x2, (fun hh => by exact absurd hh (by simp)), (fun hh => by exact absurd hh (by simp))⟩, by show (k.sn.step C).passes ≤ _; omega, by show k.tries ≤ k.tries + 1; omega, Int.le_refl _⟩
        · rename_i hz0
          have hE := ha hp0 hta hd1
          rcases hE with ⟨h1, _⟩ | ⟨i, rfl, h2, _⟩
          · omega
          · have hXl : (k.sn.step C).X.length = N := s3.X.trans (x1.trans sN)
            refine ⟨⟨lay, len, hzz, w0, w1, e, t0, t1, x1.trans sN, x2, (fun _ hh => by cases hh), fun _ a hh => ?_⟩, by show (k.sn.step C).passes ≤ _; omega, by show k.tries ≤ k.tries + 1; omega, Int.le_refl _⟩
            cases hh
            exact ⟨ta0_ok lay len hzz w0 w1 (by omega) (x2 _).1 (x2 _).2, rfl⟩
    | some a =>
      have e1 : k.step N hz C z = k.grab N (a.go a.slot.toNat (N + a.slot.toNat) C) := by unfold Ge.step; rw [if_neg hph, hta]
      have e2 : k.cells N hz C = a.cells a.slot.toNat hz C := by unfold Ge.cells; rw [if_neg hph, hta]
      obtain ⟨a1, a2⟩ := ta hp0 a hta
      have hl := Ta.cells_len a a.slot.toNat hz C
      have a3 := a1.next hl
      have hs := a.go_same a.slot.toNat (N + a.slot.toNat) C
      have hgp := go_phs (j := a.slot.toNat) (jv := N + a.slot.toNat) (C := C) a2
      rw [e1, e2]
      generalize a.go a.slot.toNat (N + a.slot.toNat) C = a' at *
      unfold Ge.grab
      split
      · exact ⟨⟨lay, by rw [hl]; exact len, hzz, w0, w1, e, t0, t1, sN, sX, (fun hh => by exact absurd hh (by simp)), (fun hh => by exact absurd hh (by simp))⟩, by show k.sn.passes ≤ _; omega, by show k.tries ≤ k.tries + 1; omega, Int.le_refl _⟩
      · split
        · obtain ⟨g1, g2⟩ := sn0_ok (so := k.so) (d := k.d) (who := k.who) (start := k.start) (C := a.cells a.slot.toNat hz C) lay (by rw [hl]; exact len)
          exact ⟨⟨lay, by rw [hl]; exact len, hzz, w0, w1, e, by show 0 ≤ k.tries + 1; omega, by show k.tries + 1 ≤ 1000000; omega, rfl, g2, fun _ _ => ⟨g1, rfl⟩, (fun _ a hh => by cases hh)⟩, by show (0 : Int) ≤ _; omega, by show k.tries + 1 ≤ k.tries + 1; omega, by show k.tries ≤ k.tries + 1; omega⟩
        · rename_i h1 h2
          have hsl : a'.slot = a.slot := hs.slot
          have hpp : a'.ph = 0 := by
            have := hgp
            omega
          refine ⟨⟨lay, by rw [hl]; exact len, hzz, w0, w1, e, t0, t1, sN, sX, (fun _ hh => by cases hh), fun _ x hh => ?_⟩, by show k.sn.passes ≤ _; omega, by show k.tries ≤ k.tries + 1; omega, Int.le_refl _⟩
          cases hh
          rw [hsl]
          exact ⟨a3, hpp⟩
end


section
variable {k : Ge} {N hz i : Nat} {C C0 : List Int} {z : Int}

theorem ge0_ok {t s so d who e start : Int} (hl : Lay t s N) (hlen : (C.length : Int) = 2 * N + 2 * t) (hhz : (hz : Int) = 2 * N + who) (w0 : 0 ≤ who) (w1 : who < t) (he : e = 0 ∨ e = 1) : (ge0 t s so d who e start N).Ok N hz C := by
  obtain ⟨g1, g2⟩ := sn0_ok (so := so) (d := d) (who := who) (start := start) (C := C) hl hlen
  exact ⟨hl, hlen, hhz, w0, w1, he, Int.le_refl _, by show (0 : Int) ≤ 1000000; decide, rfl, g2, fun _ _ => ⟨g1, rfl⟩, fun _ a h => by cases h⟩

theorem GA.start {t s so d who e start : Int} (hl : Lay t s N) (hlen : (C0.length : Int) = 2 * N + 2 * t) (hhz : (hz : Int) = 2 * N + who) (w0 : 0 ≤ who) (w1 : who < t) (he : e = 0 ∨ e = 1) : GA (ge0 t s so d who e start N) C0 C0 N hz 0 := by
  have hn1 := hl.n1
  have hn2 := hl.n2
  refine ⟨ge0_ok hl hlen hhz w0 w1 he, rfl, rfl, .inl ⟨rfl, rfl, rfl, by omega, ?_⟩⟩
  obtain ⟨m1, m2, m5, m3, m4⟩ := start_mod start N (by omega) (by omega)
  obtain ⟨st, hst⟩ : ∃ st : Nat, IntKind.u64.wrap start % N = (st : Int) := ⟨_, (Int.toNat_of_nonneg m3).symm⟩
  refine ⟨st, ?_⟩
  show Snap (sn0 t s so d who (IntKind.u64.wrap start % N) N) C0 N st 0 0 (-1)
  rw [hst]
  exact Snap.start t s so d who C0 N st 0 (by omega)

theorem tkC_len (C0 : List Int) (hz j r : Nat) : (tkC C0 hz j r).length = C0.length := by
  unfold tkC
  split
  · rfl
  · split <;> simp

theorem GA.passes {T : Int} (h : GA k C C0 N hz i T) (hp : k.ph = 0) : k.ta = none → k.sn.passes < 1000000 := by
  intro hta
  rcases h.at' with ⟨_, _, _, hi, st, hs⟩ | ⟨j, r, _, _, _, _, _, h2, _⟩ | ⟨_, h2, _⟩ | ⟨j, _, h2, _⟩
  · have hn1 := h.ok.lay.n1
    rcases hs with ⟨P, r, h1, h2⟩ | ⟨P, h1, h2⟩
    · rw [h2.at'.passes]
      have := Nat.mul_le_mul_left P (show 1 ≤ N by omega)
      rcases Nat.lt_or_ge P 2 with h3 | h3
      · omega
      · have := Nat.mul_le_mul_right N h3
        omega
    · have := h2.ph
      have := (h.ok.sn hp hta).2
      omega
  · rw [hta] at h2
    cases h2
  · omega
  · omega

theorem GA.step {T : Int} (h : GA k C C0 N hz i T) (hp : k.ph = 0) (ha : k.ask C z) (hf : ∀ j, 0 ≤ C.getD j 0 ∧ C.getD j 0 ≤ 18446744073709551615) (hT : T < 1000000 := by decide) : GA (k.step N hz C z) (k.cells N hz C) C0 N hz (i + 1) T := by
  obtain ⟨n1, n2, n3, n4⟩ := h.ok.next ha (h.passes hp) (by have := h.tries; omega) hf
  have hl := k.cells_len N hz C
  have hsame := k.step_same N hz C z
  have hn1 := h.ok.lay.n1
  have hlen := h.ok.len
  have hzz := h.ok.hzz
  have w0 := h.ok.w0
  have w1 := h.ok.w1
  have hlen0 := h.len
  rcases h.at' with ⟨_, hta, hC, hi, st, hs⟩ | ⟨j, r, hi, hr, _, hj, hE, hta, hC⟩ | ⟨_, h2, _⟩ | ⟨j, _, h2, _⟩
  · subst hC
    have e1 : k.step N hz C z = k.read (k.sn.step C) z := by unfold Ge.step; rw [if_neg (by omega), hta]
    have e2 : k.cells N hz C = C := by unfold Ge.cells; rw [if_neg (by omega), hta]
    have hs' := hs.step (h.ok.sn hp hta).2
    refine ⟨n1, by rw [hl], ?_, ?_⟩
    · rw [e1]
      unfold Ge.read
      split
      · exact h.tries
      · split <;> exact h.tries
    · rw [e2]
      rcases hs'.cases with ⟨h1, h2⟩ | ⟨h1, P, h2, h3, h4, h5, h6⟩
      · have e3 : k.read (k.sn.step C) z = { k with sn := k.sn.step C } := by unfold Ge.read; rw [if_pos (by omega)]
        rw [e1, e3]
        exact .inl ⟨hp, hta, rfl, by omega, st, hs'⟩
      · obtain rfl : P = 2 := by omega
        have hX := hs'.X
        have hXe := take_of_same (C := C) hX.1 (by omega) (h6 (by decide))
        have hE := ha hp hta h1
        rw [hXe] at hE
        have e3 : k.read (k.sn.step C) z = if z < 0 then { k with sn := k.sn.step C, ph := 2 } else { k with sn := k.sn.step C, ta := some (ta0 k.t k.s k.so k.d k.who z ((k.sn.step C).X.getD z.toNat 0)) } := by unfold Ge.read; rw [if_neg (by omega)]
        rw [e1, e3]
        rcases id hE with ⟨h7, _⟩ | ⟨j, rfl, h7, _⟩
        · rw [if_pos (by omega)]
          rw [h7] at hE
          exact .inr (.inr (.inl ⟨h2, rfl, hE, rfl⟩))
        · rw [if_neg (by omega)]
          have hjN : j < N := by rw [List.length_take] at h7; omega
          refine .inr (.inl ⟨j, 0, by omega, by omega, hp, hjN, hE, ?_, rfl⟩)
          show some (ta0 k.t k.s k.so k.d k.who j ((k.sn.step C).X.getD (j : Int).toNat 0)) = some (tk _ C N j 0)
          rw [hXe, Int.toNat_natCast, getD_take hjN]
          rfl
  · obtain ⟨a, hae⟩ : ∃ a, a = tk k C0 N j r := ⟨_, rfl⟩
    rw [← hae] at hta
    have e1 : k.step N hz C z = k.grab N (a.go a.slot.toNat (N + a.slot.toNat) C) := by unfold Ge.step; rw [if_neg (by omega), hta]
    have e2 : k.cells N hz C = a.cells a.slot.toNat hz C := by unfold Ge.cells; rw [if_neg (by omega), hta]
    have asl : a.slot.toNat = j := by rw [hae]; rfl
    have asn : a.slot = j := by rw [hae]; rfl
    have ap : a.ph = 0 := by rw [hae]; rfl
    have aw : a.word = C0.getD j 0 := by rw [hae]; rfl
    have an : a.next = r := by rw [hae]; rfl
    have al : a.lost = false := by rw [hae]; rfl
    rw [asl] at e1 e2
    have hjz : hz ≠ j := by omega
    have hjvz : hz ≠ N + j := by omega
    have hg : r ≤ 3 → C.getD j 0 = a.word := fun h3 => by
      rw [aw, hC]
      unfold tkC
      rw [if_pos h3]
      split
      · rfl
      · exact getD_set_ne' _ hjz
    have hgv : C.getD (N + j) 0 = C0.getD (N + j) 0 := by
      rw [hC]
      unfold tkC
      split
      · rfl
      · split
        · exact getD_set_ne' _ hjvz
        · rw [getD_set_ne' _ (by omega), getD_set_ne' _ hjvz]
    -- what comes of a step that is not the last
    have on : ∀ a', a.go j (N + j) C = a' → a'.ph = 0 → (∀ k' : Ge, k.Same k' → a' = tk k' C0 N j (r + 1)) → a.cells j hz C = tkC C0 hz j (r + 1) → r ≤ 3 → GA (k.step N hz C z) (k.cells N hz C) C0 N hz (i + 1) T := by
      intro a' g1 g2 g3 g4 g5
      have e3 : k.step N hz C z = { k with ta := some a' } := by
        rw [e1, g1]
        unfold Ge.grab
        rw [if_neg (by omega), if_neg (by omega)]
      refine ⟨n1, by rw [hl]; exact hlen0, by rw [e3]; exact h.tries, .inr (.inl ⟨j, r + 1, by omega, by omega, by rw [e3]; exact hp, hj, by rw [hsame.e]; exact hE, ?_, by rw [e2]; exact g4⟩)⟩
      rw [← g3 _ hsame, e3]
    have tkeq : ∀ k' : Ge, k.Same k' → ∀ q, tk k' C0 N j q = tk k C0 N j q := fun k' hs q => by
      unfold tk
      rw [hs.t, hs.s, hs.so, hs.d, hs.who]
    rcases (by omega : r = 0 ∨ r = 1 ∨ r = 2 ∨ r = 3 ∨ r = 4) with rfl | rfl | rfl | rfl | rfl
    · obtain ⟨g1, g2, g3⟩ := go_0 (j := j) (jv := N + j) (hz := hz) (C := C) ap an
      refine on _ g1 ap (fun k' hs => by rw [tkeq k' hs, hae]; rfl) ?_ (by omega)
      rw [g2, hC, asn]
      rfl
    · obtain ⟨g1, g2, g3⟩ := go_1y (jv := N + j) (hz := hz) ap an (hg (by omega))
      refine on _ g1 ap (fun k' hs => by rw [tkeq k' hs, hae]; rfl) ?_ (by omega)
      rw [g2, hC]
      rfl
    · obtain ⟨g1, g2, g3⟩ := go_2 (j := j) (jv := N + j) (hz := hz) (C := C) ap an
      refine on _ g1 ap (fun k' hs => by rw [tkeq k' hs, hae, hgv]; rfl) ?_ (by omega)
      rw [g2, hC]
      rfl
    · obtain ⟨g1, g2, g3⟩ := go_3y (jv := N + j) (hz := hz) ap an (hg (by omega))
      refine on _ g1 ap (fun k' hs => by rw [tkeq k' hs, hae]; rfl) ?_ (by omega)
      rw [g2, hC, aw]
      rfl
    · obtain ⟨g1, g2, g3⟩ := go_4y (j := j) (jv := N + j) (hz := hz) (C := C) ap an al
      have e3 : k.step N hz C z = { k with ta := some { a with next := 5, ph := 1 }, ph := 1 } := by
        rw [e1, g1]
        unfold Ge.grab
        rw [if_pos rfl]
      refine ⟨n1, by rw [hl]; exact hlen0, by rw [e3]; exact h.tries, .inr (.inr (.inr ⟨j, by omega, by rw [e3], hj, by rw [hsame.e]; exact hE, ?_, by rw [e3]; exact (fun h => by cases h), by rw [e2, g2, hC]⟩))⟩
      rw [e3]
      show (if (1 : Int) = 1 then (if (1 : Int) = 1 then a.value else 0) else 0) = _
      rw [if_pos rfl, if_pos rfl, hae]
      rfl
  · omega
  · omega

/-- Where it is while it goes on, and where it ends. -/
theorem GA.cases {T : Int} (h : GA k C C0 N hz i T) : (k.ph = 0 ∧ i < 2 * N + 5) ∨ (i = 2 * N ∧ k.ph = 2 ∧ IsEnd (C0.take N) k.e (-1) ∧ C = C0) ∨
    (∃ j : Nat, i = 2 * N + 5 ∧ k.ph = 1 ∧ j < N ∧ IsEnd (C0.take N) k.e j ∧ k.val = C0.getD (N + j) 0 ∧ k.ta ≠ none ∧ C = (tkC C0 hz j 4).set hz 0) := by
  rcases h.at' with ⟨h1, _, _, h2, _⟩ | ⟨j, r, h1, h2, h3, _⟩ | h1 | h1
  · exact .inl ⟨h1, by omega⟩
  · exact .inl ⟨h3, by omega⟩
  · exact .inr (.inl h1)
  · exact .inr (.inr h1)
end

theorem Hold.second {W w : World} {a b : Thing} {R : List Thing} (h : Hold W w (a :: R ++ [b])) : Hold W w (a :: b :: R) :=
  h.sel (fun i => if i = 0 then 0 else if i = 1 then R.length + 1 else i - 1) (fun i A hA => by
    rcases i with _ | _ | i
    · exact hA
    · cases hA
      show (a :: R ++ [b])[R.length + 1]? = some b
      simp
    · have h1 : R[i]? = some A := hA
      have h2 := (List.getElem?_eq_some_iff.1 h1).1
      show (a :: R ++ [b])[i + 1]? = some A
      rw [List.cons_append, List.getElem?_cons_succ, List.getElem?_append_left h2]
      exact h1) (fun i j hi hj e => by
    simp only [List.length_cons] at hi hj
    split at e <;> split at e <;> (try split at e) <;> (try split at e) <;> omega)
theorem GeH.begun2 {W w w' : World} {p c b bs gs : Nat} {v : Value} {bt : Option Nat} {C : List Int} {L : List Ev} {k : Ge} {R : List Thing} (h : Hold W w (tMem W.heap.size p c v C L :: R)) (e : Below w.heap.size w w') (hk : IsGe W.heap.size w' b bs gs bt k) (hb : ∀ i, GeB b bs gs bt i → w.heap.size ≤ i) : GeH W w' p c C L b k R :=
  ⟨v, bs, gs, bt, Hold.second (Hold.more h e (tGe_ok _ _ _ _ _ _) hk hb)⟩
theorem GeH.phase2 {W w : World} {p c b b' bs gs : Nat} {bt : Option Nat} {C : List Int} {L : List Ev} {k k' : Ge} {R : List Thing} (h : GeH W w p c C L b k (tGe W.heap.size b' bs gs bt k' :: R)) (x : Int) (hx : k'.ph = x) : Calls Try.prog 30 #[pt b'] w fun r w' => r = .returned (i64 x) ∧ Below w.heap.size w w' := by
  obtain ⟨v, bs', gs', bt', h⟩ := h
  exact hx ▸ quiet_below (gephase_any W.heap.size w b' bs gs bt k' (h.has 2 _ rfl))
end Go.Proofs.Yticphioeipbnmaa
