/-
  How many steps of its own a call has left at most, whatever others do between them, as long as they turn no word; which steps turn a word. No Go. No condition.
-/
import Derived.Test.YtpfjommkjkbonaaGreatYardPure
namespace Go.Proofs.YtpfjommkjkbonaaGreat
open Go.RowKit
set_option linter.unusedVariables false

/-- The words are the same. -/
def WSame (N : Nat) (C C' : List Int) : Prop := ∀ j, j < N → C'.getD j 0 = C.getD j 0
theorem WSame.refl (N : Nat) (C : List Int) : WSame N C C := fun _ _ => rfl
theorem WSame.set {N i : Nat} (C : List Int) (x : Int) (h : N ≤ i) : WSame N C (C.set i x) := fun j hj => getD_set_ne' x (by omega)

section
variable {k : Sn} {C C' : List Int} {N st r P B : Nat} {last : Int}
theorem QInv.same (h : QInv k C N st r P B last) (e : WSame N C C') : QInv k C' N st r P B last :=
  have hN : 0 < N := by have := h.at'.r1; omega
  ⟨h.at', h.ph, fun hl q hq => (h.a hl q hq).trans (e _ (Nat.mod_lt _ hN)).symm, fun hP hl => ⟨fun j hj => ((h.b hP hl).1 j hj).trans (e j hj).symm, (h.b hP hl).2⟩, h.c1, h.c2, h.c3, h.l⟩
/-- Where nothing was turned since the pass ahead, this one is the last. -/
theorem QInv.sure (h : QInv k C N st r P B last) (hr : r + 1 = N) (hP : 1 ≤ P) (hl : last < (P : Int) - 1) : (k.step C).ph = 1 := by
  obtain ⟨m1, m3, m4, m6, m7⟩ := h.at'.last (C := C) h.ph hr
  obtain ⟨b1, b2⟩ := h.b hP hl
  rw [m7, if_pos]
  refine ⟨hP, ?_⟩
  rw [b2, b1 _ h.at'.slot_lt]
  simp
end

/-- A get has at most m steps left, if nobody else turns a word. -/
def GLeft (N : Nat) (k : Ge) (C : List Int) (m : Nat) : Prop :=
  (k.ta = none ∧ ∃ (st r P B : Nat) (last : Int), QInv k.sn C N st r P B last ∧ (3 * N + 10 ≤ m + r ∨ (last ≠ (P : Int) ∧ (P = 0 ∨ last = (P : Int) - 1) ∧ 2 * N + 5 ≤ m + r) ∨ (1 ≤ P ∧ last < (P : Int) - 1 ∧ N + 5 ≤ m + r))) ∨
  (∃ a, k.ta = some a ∧ ((a.lost = false ∧ (a.next ≤ 3 → C.getD a.slot.toNat 0 = a.word) ∧ (5 : Int) ≤ m + a.next) ∨ (2 * N + 10 : Int) ≤ m + a.next))

section
variable {k : Ge} {C C' : List Int} {N hz m m' : Nat} {z : Int}
theorem GLeft.more (h : GLeft N k C m) (hm : m ≤ m') : GLeft N k C m' := by
  rcases h with ⟨h1, st, r, P, B, last, h2, h3⟩ | ⟨a, h1, h2⟩
  · refine .inl ⟨h1, st, r, P, B, last, h2, ?_⟩
    rcases h3 with h3 | ⟨h3, h4, h5⟩ | ⟨h3, h4, h5⟩
    · exact .inl (by omega)
    · exact .inr (.inl ⟨h3, h4, by omega⟩)
    · exact .inr (.inr ⟨h3, h4, by omega⟩)
  · refine .inr ⟨a, h1, ?_⟩
    rcases h2 with ⟨h2, h3, h4⟩ | h2
    · exact .inl ⟨h2, h3, by omega⟩
    · exact .inr (by omega)
/-- Others turn no word. -/
theorem GLeft.same (h : GLeft N k C m) (hk : k.Ok N hz C) (hp : k.ph = 0) (e : WSame N C C') : GLeft N k C' m := by
  rcases h with ⟨h1, st, r, P, B, last, h2, h3⟩ | ⟨a, h1, h2⟩
  · exact .inl ⟨h1, st, r, P, B, last, h2.same e, h3⟩
  · refine .inr ⟨a, h1, ?_⟩
    rcases h2 with ⟨h2, h3, h4⟩ | h2
    · have ho := (hk.ta hp a h1).1
      have h0 := ho.s0
      have h9 := ho.s1
      exact .inl ⟨h2, fun h => (e _ (by omega)).trans (h3 h), h4⟩
    · exact .inr h2
/-- Somebody turns a word. -/
theorem GLeft.turn (h : GLeft N k C m) (C' : List Int) (hk : k.Ok N hz C) (hp : k.ph = 0) : GLeft N k C' (4 * N + 10) := by
  rcases h with ⟨h1, st, r, P, B, last, h2, h3⟩ | ⟨a, h1, h2⟩
  · exact .inl ⟨h1, st, r, P, _, _, h2.store C', .inl (by omega)⟩
  · obtain ⟨ho, ha⟩ := hk.ta hp a h1
    have := ho.st ha
    exact .inr ⟨a, h1, .inr (by omega)⟩
theorem GLeft.start {t s so d who e start : Int} (hl : Lay t s N) : GLeft N (ge0 t s so d who e start N) C (4 * N + 10) := by
  have hn1 := hl.n1
  have ht1 := hl.t1
  have hn2 := hl.n2
  obtain ⟨m1, m2, m5, m3, m4⟩ := start_mod start N (by omega) (by omega)
  obtain ⟨st, hst⟩ : ∃ st : Nat, IntKind.u64.wrap start % N = (st : Int) := ⟨_, (Int.toNat_of_nonneg m3).symm⟩
  refine .inl ⟨rfl, st, 0, 0, 0, -1, ?_, .inl (by omega)⟩
  show QInv (sn0 t s so d who (IntKind.u64.wrap start % N) N) C N st 0 0 0 (-1)
  rw [hst]
  exact QInv.start t s so d who C N st 0 (by omega)

set_option maxHeartbeats 1000000 in
/-- A step of its own. -/
theorem GLeft.step (h : GLeft N k C m) (hk : k.Ok N hz C) (hp : k.ph = 0) (ha : k.ask C z) : 1 ≤ m ∧ ((k.step N hz C z).ph ≠ 0 ∨ GLeft N (k.step N hz C z) (k.cells N hz C) (m - 1)) := by
  have hn1 := hk.lay.n1
  have ht1 := hk.lay.t1
  have hn2 := hk.lay.n2
  have hzz := hk.hzz
  have w0 := hk.w0
  have w1 := hk.w1
  have hlen := hk.len
  have hnp : ¬ k.ph ≠ 0 := by omega
  rcases h with ⟨hta, st, r, P, B, last, hq, h3⟩ | ⟨a, hta, h2⟩
  · have e1 : k.step N hz C z = k.read (k.sn.step C) z := by unfold Ge.step; rw [if_neg hnp, hta]
    have e2 : k.cells N hz C = C := by unfold Ge.cells; rw [if_neg hnp, hta]
    have hr1 := hq.at'.r1
    have hl := hq.l
    rw [e2]
    refine ⟨by omega, ?_⟩
    rcases (by omega : r + 1 < N ∨ r + 1 = N) with hr | hr
    · have hm := hq.mid hr
      have e3 : k.step N hz C z = { k with sn := k.sn.step C } := by
        rw [e1]
        unfold Ge.read
        rw [if_pos (by rw [hm.ph]; decide)]
      rw [e3]
      refine .inr (.inl ⟨hta, st, r + 1, P, B, last, hm, ?_⟩)
      rcases h3 with h3 | ⟨h3, h4, h5⟩ | ⟨h3, h4, h5⟩
      · exact .inl (by omega)
      · exact .inr (.inl ⟨h3, h4, by omega⟩)
      · exact .inr (.inr ⟨h3, h4, by omega⟩)
    · rcases hq.last hr with hm | hm
      · have e3 : k.step N hz C z = { k with sn := k.sn.step C } := by
          rw [e1]
          unfold Ge.read
          rw [if_pos (by rw [hm.ph]; decide)]
        rw [e3]
        refine .inr (.inl ⟨hta, st, 0, P + 1, B, last, hm, ?_⟩)
        rcases h3 with h3 | ⟨h3, h4, h5⟩ | ⟨h3, h4, h5⟩
        · by_cases hlp : last = (P : Int)
          · exact .inr (.inl ⟨by omega, .inr (by omega), by omega⟩)
          · exact .inr (.inr ⟨by omega, by omega, by omega⟩)
        · exact .inr (.inr ⟨by omega, by omega, by omega⟩)
        · have := hq.sure hr h3 h4
          rw [hm.ph] at this
          exact absurd this (by decide)
      · have hd := hm.ph
        by_cases hz0 : z < 0
        · have e3 : k.step N hz C z = { k with sn := k.sn.step C, ph := 2 } := by
            rw [e1]
            unfold Ge.read
            rw [if_neg (fun h => h hd), if_pos hz0]
          rw [e3]
          exact .inl (by show (2 : Int) ≠ 0; decide)
        · have e3 : k.step N hz C z = { k with sn := k.sn.step C, ta := some (ta0 k.t k.s k.so k.d k.who z ((k.sn.step C).X.getD z.toNat 0)) } := by
            rw [e1]
            unfold Ge.read
            rw [if_neg (fun h => h hd), if_neg hz0]
          have hE := ha hp hta hd
          have hzN : z.toNat < N := by
            rcases hE with ⟨hz1, _⟩ | ⟨j, rfl, hj, _⟩
            · omega
            · have := hm.at'.X
              rw [Int.toNat_natCast]
              omega
          rw [e3]
          refine .inr (.inr ⟨_, rfl, ?_⟩)
          show (false = false ∧ ((0 : Int) ≤ 3 → C.getD z.toNat 0 = (k.sn.step C).X.getD z.toNat 0) ∧ (5 : Int) ≤ (m - 1 : Nat) + 0) ∨ (2 * N + 10 : Int) ≤ (m - 1 : Nat) + 0
          rcases h3 with h3 | ⟨h3, h4, h5⟩ | ⟨h3, h4, h5⟩
          · exact .inr (by omega)
          · exact .inl ⟨rfl, fun _ => (hm.x (by omega) _ hzN).symm, by omega⟩
          · exact .inl ⟨rfl, fun _ => (hm.x (by omega) _ hzN).symm, by omega⟩
  · obtain ⟨ho, ap⟩ := hk.ta hp a hta
    have s0 := ho.s0
    have s1 := ho.s1
    have e1 : k.step N hz C z = k.grab N (a.go a.slot.toNat (N + a.slot.toNat) C) := by unfold Ge.step; rw [if_neg hnp, hta]
    have e2 : k.cells N hz C = a.cells a.slot.toNat hz C := by unfold Ge.cells; rw [if_neg hnp, hta]
    have on : ∀ a' : Ta, a.go a.slot.toNat (N + a.slot.toNat) C = a' → a'.ph = 0 → k.step N hz C z = { k with ta := some a' } := fun a' g hp' => by
      rw [e1, g]
      unfold Ge.grab
      rw [if_neg (by omega), if_neg (by omega)]
    rcases ho.st ap with ⟨hn, hl⟩ | ⟨hn, hl⟩ | ⟨hn, hl⟩ | ⟨hn, hl⟩ | hn
    · obtain ⟨g1, g2, g3⟩ := go_0 (j := a.slot.toNat) (jv := N + a.slot.toNat) (hz := hz) (C := C) ap hn
      rw [on _ g1 ap, e2, g2]
      refine ⟨by omega, .inr (.inr ⟨_, rfl, ?_⟩)⟩
      rcases h2 with ⟨h2, h3, h4⟩ | h2
      · exact .inl ⟨hl, fun _ => by show (C.set hz _).getD a.slot.toNat 0 = a.word; exact (getD_set_ne' _ (by omega)).trans (h3 (by omega)), by show (5 : Int) ≤ (m - 1 : Nat) + 1; omega⟩
      · exact .inr (by show (2 * N + 10 : Int) ≤ (m - 1 : Nat) + 1; omega)
    · by_cases hw : C.getD a.slot.toNat 0 = a.word
      · obtain ⟨g1, g2, g3⟩ := go_1y (jv := N + a.slot.toNat) (hz := hz) ap hn hw
        rw [on _ g1 ap, e2, g2]
        refine ⟨by omega, .inr (.inr ⟨_, rfl, ?_⟩)⟩
        rcases h2 with ⟨h2, h3, h4⟩ | h2
        · exact .inl ⟨hl, fun _ => hw, by show (5 : Int) ≤ (m - 1 : Nat) + 2; omega⟩
        · exact .inr (by show (2 * N + 10 : Int) ≤ (m - 1 : Nat) + 2; omega)
      · obtain ⟨g1, g2, g3⟩ := go_1n (jv := N + a.slot.toNat) (hz := hz) ap hn hw
        rw [on _ g1 ap, e2, g2]
        rcases h2 with ⟨h2, h3, h4⟩ | h2
        · exact absurd (h3 (by omega)) hw
        · exact ⟨by omega, .inr (.inr ⟨_, rfl, .inr (by show (2 * N + 10 : Int) ≤ (m - 1 : Nat) + 4; omega)⟩)⟩
    · obtain ⟨g1, g2, g3⟩ := go_2 (j := a.slot.toNat) (jv := N + a.slot.toNat) (hz := hz) (C := C) ap hn
      rw [on _ g1 ap, e2, g2]
      refine ⟨by omega, .inr (.inr ⟨_, rfl, ?_⟩)⟩
      rcases h2 with ⟨h2, h3, h4⟩ | h2
      · exact .inl ⟨hl, fun _ => h3 (by omega), by show (5 : Int) ≤ (m - 1 : Nat) + 3; omega⟩
      · exact .inr (by show (2 * N + 10 : Int) ≤ (m - 1 : Nat) + 3; omega)
    · by_cases hw : C.getD a.slot.toNat 0 = a.word
      · obtain ⟨g1, g2, g3⟩ := go_3y (jv := N + a.slot.toNat) (hz := hz) ap hn hw
        rw [on _ g1 ap, e2, g2]
        refine ⟨by omega, .inr (.inr ⟨_, rfl, ?_⟩)⟩
        rcases h2 with ⟨h2, h3, h4⟩ | h2
        · exact .inl ⟨hl, fun h => absurd h (by show ¬ (4 : Int) ≤ 3; decide), by show (5 : Int) ≤ (m - 1 : Nat) + 4; omega⟩
        · exact .inr (by show (2 * N + 10 : Int) ≤ (m - 1 : Nat) + 4; omega)
      · obtain ⟨g1, g2, g3⟩ := go_3n (jv := N + a.slot.toNat) (hz := hz) ap hn hw
        rw [on _ g1 ap, e2, g2]
        rcases h2 with ⟨h2, h3, h4⟩ | h2
        · exact absurd (h3 (by omega)) hw
        · exact ⟨by omega, .inr (.inr ⟨_, rfl, .inr (by show (2 * N + 10 : Int) ≤ (m - 1 : Nat) + 4; omega)⟩)⟩
    · by_cases hl : a.lost = true
      · obtain ⟨g1, g2, g3⟩ := go_4n (j := a.slot.toNat) (jv := N + a.slot.toNat) (hz := hz) (C := C) ap hn hl
        have e3 : k.step N hz C z = { k with tries := k.tries + 1, sn := sn0 k.t k.s k.so k.d k.who (IntKind.u64.wrap k.start % N) N, ta := none } := by
          rw [e1, g1]
          unfold Ge.grab
          rw [if_neg (by show ¬ (2 : Int) = 1; decide), if_pos rfl]
        rw [e3, e2, g2]
        rcases h2 with ⟨h2, _⟩ | h2
        · rw [hl] at h2
          cases h2
        · obtain ⟨m1, m2, m5, m3, m4⟩ := start_mod k.start N (by omega) (by omega)
          obtain ⟨st, hst⟩ : ∃ st : Nat, IntKind.u64.wrap k.start % N = (st : Int) := ⟨_, (Int.toNat_of_nonneg m3).symm⟩
          refine ⟨by omega, .inr (.inl ⟨rfl, st, 0, 0, 0, -1, ?_, .inr (.inl ⟨by decide, .inl rfl, by omega⟩)⟩)⟩
          show QInv (sn0 k.t k.s k.so k.d k.who (IntKind.u64.wrap k.start % N) N) _ N st 0 0 0 (-1)
          rw [hst]
          exact QInv.start _ _ _ _ _ _ N st 0 (by omega)
      · have hl' : a.lost = false := by simpa using hl
        obtain ⟨g1, g2, g3⟩ := go_4y (j := a.slot.toNat) (jv := N + a.slot.toNat) (hz := hz) (C := C) ap hn hl'
        have e3 : k.step N hz C z = { k with ta := some { a with next := 5, ph := 1 }, ph := 1 } := by
          rw [e1, g1]
          unfold Ge.grab
          rw [if_pos rfl]
        rw [e3]
        exact ⟨by rcases h2 with ⟨_, _, h4⟩ | h2 <;> omega, .inl (by show (1 : Int) ≠ 0; decide)⟩
end

theorem stp_words {nb N : Nat} {k : Tk} {C : List Int} {now : Int} (h : N ≤ nb) : WSame N C (stp nb k C now).2.1 := by
  have h0 : ∀ x, WSame N C (C.set nb x) := fun x => WSame.set C x h
  have h1 : ∀ x, WSame N C (C.set (nb + k.who.toNat) x) := fun x => WSame.set C x (by omega)
  have h2 : WSame N C C := WSame.refl N C
  unfold stp
  repeat' split
  all_goals first | exact h0 _ | exact h1 _ | exact h2

/-- A word is turned by a step of T: it is noted so, and the call is over then, or has just its last step left. -/
def WTurn (N : Nat) (T T' : Wk) (E : List Ev) : Prop :=
  (∃ e, E = [e] ∧ 0 ≤ e.cell ∧ e.cell < N ∧ (e.op = 1 ∨ (e.op = 2 ∧ e.ok = true))) ∧ (T'.ph = 1 ∨ ∃ k a, T' = .ge k ∧ k.ph = 0 ∧ k.ta = some a ∧ a.next = 4 ∧ a.lost = false)
/-- It has just its last step left. -/
def Wk.last (T : Wk) : Prop := ∃ k a, T = .ge k ∧ k.ph = 0 ∧ k.ta = some a ∧ a.next = 4 ∧ a.lost = false
theorem Wk.words {T : Wk} {P : Pl} {C : List Int} {now z : Int} (h : T.Ok P C) (hp : T.ph = 0) : WSame P.N C (T.cells P C now) ∨ WTurn P.N T (T.step P C now z) (T.ev P C now) := by
  cases T with
  | pu k =>
    have h1 : k.Ok P.N P.m P.nb P.h0 C := h
    have hp0 : k.ph = 0 := hp
    have hnp : ¬ k.ph ≠ 0 := by omega
    have s0 := h1.cl.s0; have s1 := h1.cl.s1; have m0 := h1.cl.m0; have m1 := h1.cl.m1; have nt := h1.tk.nt; have t1 := h1.cl.lay.t1; have ct := h1.ct; have tt := h1.tt
    show WSame P.N C (k.cells P.N P.nb C now) ∨ WTurn P.N (.pu k) (.pu (k.step P.m P.nb P.h0 C now)) (k.ev P.N P.nb P.h0 C now)
    rcases h1.at' hp0 with ⟨a, _, _⟩ | ⟨a, _, _⟩ | ⟨a, _, _⟩ | ⟨a, _, _⟩
    · refine .inl ?_
      unfold Pu.cells
      rw [if_neg hnp, if_pos a]
      exact WSame.refl _ _
    · refine .inl ?_
      unfold Pu.cells
      rw [if_neg hnp, if_neg (by omega), if_pos a]
      exact stp_words (by omega)
    · refine .inl ?_
      unfold Pu.cells
      rw [if_neg hnp, if_neg (by omega), if_neg (by omega), if_pos a]
      exact WSame.set _ _ (by omega)
    · refine .inr ⟨?_, .inl ?_⟩
      · unfold Pu.ev
        rw [if_neg hnp, if_neg (by omega), if_neg (by omega), if_neg (by omega)]
        exact ⟨_, rfl, by show (0 : Int) ≤ (k.cl.slot.toNat : Nat); omega, by show ((k.cl.slot.toNat : Nat) : Int) < P.N; omega, .inl rfl⟩
      · show (k.step P.m P.nb P.h0 C now).ph = 1
        unfold Pu.step
        rw [if_neg hnp, if_neg (by omega), if_neg (by omega), if_neg (by omega)]
  | ge k =>
    have h1 : k.Ok P.N P.hw C := h.1
    have hp0 : k.ph = 0 := hp
    have hnp : ¬ k.ph ≠ 0 := by omega
    have hzz := h1.hzz
    have w0 := h1.w0
    show WSame P.N C (k.cells P.N P.hw C) ∨ WTurn P.N (.ge k) (.ge (k.step P.N P.hw C z)) (k.ev P.N P.hw C)
    cases hta : k.ta with
    | none =>
      refine .inl ?_
      have e2 : k.cells P.N P.hw C = C := by unfold Ge.cells; rw [if_neg hnp, hta]
      rw [e2]
      exact WSame.refl _ _
    | some a =>
      obtain ⟨ho, ap⟩ := h1.ta hp0 a hta
      have s0 := ho.s0
      have s1 := ho.s1
      have e1 : k.step P.N P.hw C z = k.grab P.N (a.go a.slot.toNat (P.N + a.slot.toNat) C) := by unfold Ge.step; rw [if_neg hnp, hta]
      have e2 : k.cells P.N P.hw C = a.cells a.slot.toNat P.hw C := by unfold Ge.cells; rw [if_neg hnp, hta]
      have e3 : k.ev P.N P.hw C = a.ev a.slot.toNat (P.N + a.slot.toNat) P.hw C := by unfold Ge.ev; rw [if_neg hnp, hta]
      rw [e2]
      rcases ho.st ap with ⟨hn, hl⟩ | ⟨hn, hl⟩ | ⟨hn, hl⟩ | ⟨hn, hl⟩ | hn
      · rw [(go_0 (j := a.slot.toNat) (jv := P.N + a.slot.toNat) (hz := P.hw) (C := C) ap hn).2.1]
        exact .inl (WSame.set _ _ (by omega))
      · by_cases hw : C.getD a.slot.toNat 0 = a.word
        · rw [(go_1y (jv := P.N + a.slot.toNat) (hz := P.hw) ap hn hw).2.1]
          exact .inl (WSame.refl _ _)
        · rw [(go_1n (jv := P.N + a.slot.toNat) (hz := P.hw) ap hn hw).2.1]
          exact .inl (WSame.refl _ _)
      · rw [(go_2 (j := a.slot.toNat) (jv := P.N + a.slot.toNat) (hz := P.hw) (C := C) ap hn).2.1]
        exact .inl (WSame.refl _ _)
      · by_cases hw : C.getD a.slot.toNat 0 = a.word
        · obtain ⟨g1, g2, g3⟩ := go_3y (jv := P.N + a.slot.toNat) (hz := P.hw) ap hn hw
          refine .inr ⟨⟨_, e3.trans g3, by show (0 : Int) ≤ (a.slot.toNat : Nat); omega, by show ((a.slot.toNat : Nat) : Int) < P.N; omega, .inr ⟨rfl, rfl⟩⟩, .inr ⟨{ k with ta := some { a with next := 4 } }, { a with next := 4 }, ?_, hp0, rfl, rfl, hl⟩⟩
          rw [e1, g1]
          unfold Ge.grab
          rw [if_neg (by show ¬ a.ph = 1; omega), if_neg (by show ¬ a.ph = 2; omega)]
        · rw [(go_3n (jv := P.N + a.slot.toNat) (hz := P.hw) ap hn hw).2.1]
          exact .inl (WSame.refl _ _)
      · by_cases hl : a.lost = true
        · rw [(go_4n (j := a.slot.toNat) (jv := P.N + a.slot.toNat) (hz := P.hw) (C := C) ap hn hl).2.1]
          exact .inl (WSame.set _ _ (by omega))
        · rw [(go_4y (j := a.slot.toNat) (jv := P.N + a.slot.toNat) (hz := P.hw) (C := C) ap hn (by simpa using hl)).2.1]
          exact .inl (WSame.set _ _ (by omega))
/-- With just its last step left it ends by that. -/
theorem Wk.last_over {T : Wk} {P : Pl} {C : List Int} {now z : Int} (h : T.Ok P C) (hl : T.last) : (T.step P C now z).ph = 1 := by
  obtain ⟨k, a, rfl, hp, hta, hn, hf⟩ := hl
  have h1 : k.Ok P.N P.hw C := h.1
  obtain ⟨ho, ap⟩ := h1.ta hp a hta
  show (k.step P.N P.hw C z).ph = 1
  have e1 : k.step P.N P.hw C z = k.grab P.N (a.go a.slot.toNat (P.N + a.slot.toNat) C) := by unfold Ge.step; rw [if_neg (by omega), hta]
  rw [e1, (go_4y (j := a.slot.toNat) (jv := P.N + a.slot.toNat) (hz := 0) (C := C) ap hn hf).1]
  unfold Ge.grab
  rw [if_pos rfl]

/-- A call has at most m steps of its own left, if nobody else turns a word. -/
def WLeft (P : Pl) (T : Wk) (C : List Int) (m : Nat) : Prop := match T with
  | .pu k => k.rem P.m ≤ m
  | .ge k => GLeft P.N k C m
/-- .. and whatever others do: so many more. -/
def Wk.most (T : Wk) (P : Pl) (put : Nat) : Nat := match T with
  | .pu _ => put
  | .ge _ => 4 * P.N + 10
section
variable {T : Wk} {P : Pl} {C C' : List Int} {now z : Int} {m m' : Nat}
theorem WLeft.more (h : WLeft P T C m) (hm : m ≤ m') : WLeft P T C m' := by
  cases T with
  | pu k =>
    have h' : k.rem P.m ≤ m := h
    show k.rem P.m ≤ m'
    omega
  | ge k => exact GLeft.more h hm
theorem WLeft.same (h : WLeft P T C m) (hk : T.Ok P C) (hp : T.ph = 0) (e : WSame P.N C C') : WLeft P T C' m := by
  cases T with
  | pu k => exact h
  | ge k => exact GLeft.same h hk.1 hp e
theorem WLeft.step (h : WLeft P T C m) (hk : T.Ok P C) (hp : T.ph = 0) (ha : T.ask C z) (n0 : 0 ≤ now) (hf : ∀ j, 0 ≤ C.getD j 0) : 1 ≤ m ∧ ((T.step P C now z).ph ≠ 0 ∨ WLeft P (T.step P C now z) (T.cells P C now) (m - 1)) := by
  cases T with
  | pu k =>
    have hk' : k.Ok P.N P.m P.nb P.h0 C := hk
    have h' : k.rem P.m ≤ m := h
    have h1 := (hk'.next_ (now := now) n0 hf).2 hp
    have h2 := Pu.rem_pos hk' hp
    refine ⟨by omega, .inr ?_⟩
    show (k.step P.m P.nb P.h0 C now).rem P.m ≤ (m - 1 : Nat)
    omega
  | ge k => exact GLeft.step h hk.1 hp ha
end
end Go.Proofs.YtpfjommkjkbonaaGreat
