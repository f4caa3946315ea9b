/-
  Plain lemmas: what one thread puts in alone, into the first of its places, and another one takes out again, time and again. No Go. No condition.
-/
import Derived.Test.YtemaghebpnjmoaaPutAgainPure
import Derived.Test.YtemaghebpnjmoaaAGet
namespace Go.Proofs.Ytemaghebpnjmoaa
open Go.RowKit
set_option linter.unusedVariables false

/-- Cells between two pairs: nothing is in; place m was used i times. -/
structure Calm (C : List Int) (t s so d a : Int) (N m nb h0 : Nat) (i now M h : Int) : Prop where
  len : C.length = nb + t.toNat
  st : C.getD m 0 % 4 = 0 ∨ C.getD m 0 % 4 = 2
  gen : C.getD m 0 / 8 % 8192 = i
  rest : ∀ q, q < N → q ≠ m → C.getD q 0 = 0
  hz : ∀ q, h0 ≤ q → q < nb → C.getD q 0 = 0
  num : ∀ q, nb ≤ q → 0 ≤ C.getD q 0 ∧ C.getD q 0 ≤ M
  bel : Bel nb (tk0 t s so d a) (numC nb C) now h
/-- Cells with one thing, at m. -/
structure OneIn (C : List Int) (t s so d a : Int) (N m nb h0 : Nat) (i now M h value : Int) : Prop where
  len : C.length = nb + t.toNat
  st : C.getD m 0 % 4 = 1
  gen : C.getD m 0 / 8 % 8192 = i
  fit : 0 ≤ C.getD m 0 ∧ C.getD m 0 ≤ 18446744073709551615
  rest : ∀ q, q < N → q ≠ m → C.getD q 0 = 0
  hz : ∀ q, h0 ≤ q → q < nb → C.getD q 0 = 0
  num : ∀ q, nb ≤ q → 0 ≤ C.getD q 0 ∧ C.getD q 0 ≤ M
  bel : Bel nb (tk0 t s so d a) (numC nb C) now h
  val : C.getD (N + m) 0 = value

section
variable {C C0 : List Int} {t s so d a e value i now M h : Int} {N m nb h0 : Nat}
theorem Calm.start (hnb : (nb : Int) = 2 * N + t) (t1 : 1 ≤ t) : Calm (List.replicate (nb + t.toNat) 0) t s so d a N m nb h0 0 0 0 (-1) :=
  have z : ∀ j, (List.replicate (nb + t.toNat) (0 : Int)).getD j 0 = 0 := gzeros _
  ⟨List.length_replicate, .inl (by rw [z]; rfl), by rw [z]; rfl, fun q _ _ => z q, fun q _ _ => z q, fun q _ => by rw [z]; exact ⟨Int.le_refl _, Int.le_refl _⟩, Bel.begun t s so d a (numC_nn (fun j => by rw [z]; exact Int.le_refl _)) (Int.le_refl _)⟩
theorem Calm.usable (F : Calm C t s so d a N m nb h0 i now M h) (hi : i ≤ 100) (hh0 : (h0 : Int) = 2 * N) (hnb : (nb : Int) = 2 * N + t) : usable C t h0 (m : Int) := by
  refine ⟨by have := F.gen; show C.getD m 0 / 8 % 8192 ≠ 8191; omega, ?_⟩
  rcases F.st with h1 | h1
  · exact .inl h1
  · refine .inr ⟨h1, fun e he => ?_⟩
    have := F.hz (h0 + e) (by omega) (by omega)
    omega

/-- A put that is done alone, behind n steps (of which some may have been for nothing). -/
structure PX (k : Pu) (C C0 : List Int) (N m nb h0 : Nat) (t s value now M h : Int) (n : Nat) : Prop where
  t' : k.t = t
  s' : k.s = s
  v' : k.value = value
  at' : ∃ i : Nat, i ≤ n ∧ i ≤ 27 ∧ Solo2 k C C0 N m nb h0 m (now + i) (M + i) h ∧ (k.ph = 0 → i = n ∧ (i : Int) + k.rem m ≤ 27)
theorem PX.ok {k : Pu} {n : Nat} (X : PX k C C0 N m nb h0 t s value now M h n) : k.Ok N m nb h0 C := by
  obtain ⟨i, _, _, S, _⟩ := X.at'
  exact S.ok
theorem PX.start (F : Calm C t s so d a N m nb h0 i now M h) (hok : (pu0 t s so d a e value m).Ok N m nb h0 C) (hm : a * s = m) (m0 : 0 ≤ M) (hr : (pu0 t s so d a e value m).rem m ≤ 27) : PX (pu0 t s so d a e value m) C C N m nb h0 t s value now M h 0 :=
  ⟨rfl, rfl, rfl, 0, Nat.le_refl _, by omega, by
    have := Solo2.start (j := m) hok hm F.num m0 F.bel
    rw [show now + ((0 : Nat) : Int) = now by omega, show M + ((0 : Nat) : Int) = M by omega]
    exact this, fun _ => ⟨rfl, by omega⟩⟩
theorem PX.step {k : Pu} {n : Nat} (X : PX k C C0 N m nb h0 t s value now M h n) (hu : Go.Proofs.Ytemaghebpnjmoaa.usable C0 t h0 (m : Int)) (s1 : 1 ≤ s) (m0 : 0 ≤ M) (m1 : M < 900) (n0 : 0 ≤ now) (n1 : now < 90000) (hn : ∀ i, 0 ≤ C.getD i 0) :
    PX (k.step m nb h0 C (now + n)) (k.cells N nb C (now + n)) C0 N m nb h0 t s value now M h (n + 1) := by
  obtain ⟨i, h1, h2, S, h3⟩ := X.at'
  by_cases hp : k.ph = 0
  · obtain ⟨rfl, h4⟩ := h3 hp
    have hpos := Pu.rem_pos S.ok hp
    have hS := S.step (Int.le_refl _) (by rw [X.s']; omega) (by rw [X.t']; exact hu) (fun q h1 h2 => by omega) (by omega) (by omega) (by omega) (by omega) hn
    obtain ⟨o1, o2⟩ := S.ok.next_ (now := now + (i : Int)) (by omega) hn
    have hs := Pu.step_same k m nb h0 C (now + (i : Int))
    have o3 := o2 hp
    refine ⟨hs.t.trans X.t', hs.s.trans X.s', hs.value.trans X.v', i + 1, Nat.le_refl _, by omega, ?_, fun _ => ⟨rfl, by omega⟩⟩
    rw [show now + ((i + 1 : Nat) : Int) = now + (i : Int) + 1 by omega, show M + ((i + 1 : Nat) : Int) = M + (i : Int) + 1 by omega]
    exact hS
  · rw [show k.step m nb h0 C (now + n) = k from if_pos hp, show k.cells N nb C (now + n) = C from if_pos hp]
    exact ⟨X.t', X.s', X.v', i, by omega, h2, S, fun h => absurd h hp⟩
/-- Behind it. -/
theorem PX.done {k : Pu} {n : Nat} (X : PX k C C0 N m nb h0 t s value now M h n) (hn : 28 ≤ n) (F : Calm C0 t s so d a N m nb h0 i now M h) (hsame : (pu0 t s so d a e value m).Same k) (i0 : 0 ≤ i) (i1 : i ≤ 100) (hh0 : (h0 : Int) = 2 * N) (hnb : (nb : Int) = 2 * N + t) (t1 : 1 ≤ t) (hmN : m < N) (now' : Int) (hnow : now + 27 ≤ now') :
    k.ph = 1 ∧ 0 ≤ k.tk.lo ∧ k.tk.lo ≤ k.tk.hi ∧ k.tk.hi < 16777215 ∧ OneIn C t s so d a N m nb h0 (i + 1) now' (M + 27) k.tk.hi value := by
  obtain ⟨j, h1, h2, S, h3⟩ := X.at'
  have hp : k.ph = 1 := by
    rcases S.ph with hp | hp
    · have := (h3 hp).1
      omega
    · exact hp
  obtain ⟨hc, ht⟩ := S.fin hp
  obtain ⟨q, hf⟩ := S.fd
  have hg : k.cl.wg = i := by
    have h1 := (hf.p1 hc).2.2.2.1
    rw [S.slot hc] at h1
    have h2 := F.gen
    have e : ((m : Nat) : Int).toNat = m := Int.toNat_natCast m
    rw [e] at h1
    omega
  obtain ⟨d1, d2, d3, d4, d5⟩ := S.date.done ht
  obtain ⟨p1, p2, p3, p4, p5, p6, p7⟩ := pack_parts S.ok hc ht
  have hpk := S.pack hp
  refine ⟨hp, d3, d2, d4, S.len.trans F.len, by rw [hpk]; exact p1, by rw [hpk, p3, hg], by rw [hpk]; exact ⟨p6, p7⟩, fun q h1 h2 => ?_, fun q h1 h2 => ?_, fun q h1 => ?_, ?_, ?_⟩
  · rw [S.other q (by omega) h2 (by omega)]
    exact F.rest q h1 h2
  · rw [S.other q h2 (by omega) (by omega)]
    exact F.hz q h1 h2
  · have := S.date.num q h1
    omega
  · exact (d5 (tk0 t s so d a) hsame.tso.symm (by rw [hsame.t]; rfl) rfl).mono (fun _ => Int.le_refl _) (by omega)
  · exact (S.value (.inl hp)).trans X.v'

/-- What stands at the end, where there is one thing. -/
theorem OneIn.end' {z : Int} (F : OneIn C t s so d a N m nb h0 i now M h value) (hmN : m < N) (hnb : (nb : Int) = 2 * N + t) (t1 : 1 ≤ t) (hE : IsEnd (C.take N) e z) : z = m := by
  have hl : N ≤ C.length := by have := F.len; omega
  have hlen : (C.take N).length = N := by rw [List.length_take]; omega
  rcases hE with ⟨_, h⟩ | ⟨j, rfl, h1, h2, _⟩
  · refine absurd ?_ (h m (by omega))
    show (C.take N).getD m 0 % 4 = 1
    rw [getD_take hmN]
    exact F.st
  · have h2' : (C.take N).getD j 0 % 4 = 1 := h2
    rw [getD_take (by omega)] at h2'
    by_cases hj : j = m
    · rw [hj]
    · rw [F.rest j (by omega) hj] at h2'
      omega
theorem Calm.end' {z : Int} (F : Calm C t s so d a N m nb h0 i now M h) (hmN : m < N) (hE : IsEnd (C.take N) e z) : z = -1 := by
  rcases hE with ⟨h, _⟩ | ⟨j, rfl, h1, h2, _⟩
  · exact h
  · exfalso
    have hj : j < N := by rw [List.length_take] at h1; omega
    have h2' : (C.take N).getD j 0 % 4 = 1 := h2
    rw [getD_take hj] at h2'
    by_cases hjm : j = m
    · rw [hjm] at h2'
      rcases F.st with h | h <;> omega
    · rw [F.rest j hj hjm] at h2'
      omega
theorem tkW_parts' {x : Int} (x0 : 0 ≤ x) (x1 : x ≤ 18446744073709551615) : tkW x % 4 = 2 ∧ tkW x / 8 % 8192 = x / 8 % 8192 := by
  unfold tkW
  omega
/-- Behind a get. -/
theorem OneIn.took {hw : Nat} (F : OneIn C t s so d a N m nb h0 i now M h value) (hmN : m < N) (hh0 : (h0 : Int) = 2 * N) (hw0 : h0 ≤ hw) (hw1 : hw < nb) (now' : Int) (hnow : now ≤ now') : Calm ((tkC C hw m 4).set hw 0) t s so d a N m nb h0 i now' M h := by
  have e4 : tkC C hw m 4 = (C.set hw (m + 1)).set m (tkW (C.getD m 0)) := rfl
  have hl := F.len
  have g : ∀ q, q ≠ hw → q ≠ m → ((tkC C hw m 4).set hw 0).getD q 0 = C.getD q 0 := fun q h1 h2 => by
    rw [e4, getD_set_ne2 _ (fun e => h1 e.symm), getD_set_ne2 _ (fun e => h2 e.symm), getD_set_ne2 _ (fun e => h1 e.symm)]
  have gm : ((tkC C hw m 4).set hw 0).getD m 0 = tkW (C.getD m 0) := by
    rw [e4, getD_set_ne2 _ (by omega), getD_set_eq2 _ (by rw [List.length_set]; omega)]
  have gh : ((tkC C hw m 4).set hw 0).getD hw 0 = 0 := by
    rw [e4, getD_set_eq2 _ (by rw [List.length_set, List.length_set]; omega)]
  obtain ⟨p1, p2⟩ := tkW_parts' F.fit.1 F.fit.2
  refine ⟨by rw [e4, List.length_set, List.length_set, List.length_set]; exact hl, .inr (by rw [gm]; exact p1), by rw [gm, p2]; exact F.gen, fun q h1 h2 => ?_, fun q h1 h2 => ?_, fun q h1 => ?_, ?_⟩
  · rw [g q (by omega) h2]
    exact F.rest q h1 h2
  · by_cases hq : q = hw
    · rw [hq]
      exact gh
    · rw [g q hq (by omega)]
      exact F.hz q h1 h2
  · rw [g q (by omega) (by omega)]
    exact F.num q h1
  · rw [e4, numC_low hw1, numC_low (by omega), numC_low hw1]
    exact F.bel.mono (fun _ => Int.le_refl _) hnow
end

end Go.Proofs.Ytemaghebpnjmoaa
