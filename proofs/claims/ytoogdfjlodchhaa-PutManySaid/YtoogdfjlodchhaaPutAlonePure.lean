/-
  Plain lemmas on puts that one thread does one behind the other, until there is no room. No Go. No condition.
-/
import Derived.Test.YtoogdfjlodchhaaPutAgainPure
namespace Go.Proofs.Ytoogdfjlodchhaa
open Go.RowKit
set_option linter.unusedVariables false

/-- A put that finds no place. -/
structure SoloF (k : Pu) (C0 : List Int) (N : Nat) (m : Int) (nb hz : Nat) : Prop where
  ok : k.Ok N m nb hz C0
  fd : ∃ i, Fd k.cl C0 N m hz i
  next : k.next = 0
  ph : k.ph = 0 ∨ k.ph = 2
theorem SoloF.step {k : Pu} {C0 : List Int} {N : Nat} {m : Int} {nb hz : Nat} {now : Int} (S : SoloF k C0 N m nb hz) (hno : ∀ i : Int, m ≤ i → i < m + k.s → ¬ usable C0 k.t hz i) (n0 : 0 ≤ now) (hn : ∀ i, 0 ≤ C0.getD i 0) :
    SoloF (k.step m nb hz C0 now) C0 N m nb hz ∧ k.cells N nb C0 now = C0 ∧ ∀ e ∈ k.ev N nb hz C0 now, e.op = 0 := by
  obtain ⟨ok', hrem⟩ := S.ok.next_ (now := now) n0 hn
  have hcs := S.ok.cs
  have hct := S.ok.ct
  unfold Pu.step Pu.cells Pu.ev at *
  by_cases hp : k.ph ≠ 0
  · rw [if_pos hp] at ok' ⊢
    rw [if_pos hp, if_pos hp]
    exact ⟨S, rfl, fun e he => by simp at he⟩
  · have hp0 : k.ph = 0 := Classical.not_not.1 hp
    have a := S.next
    rw [if_neg hp, if_pos a] at ok' ⊢
    rw [if_neg hp, if_neg hp, if_pos a, if_pos a]
    obtain ⟨i, hfd⟩ := S.fd
    have hf := hfd.step
    obtain ⟨s1, s2, s3⟩ := Cl.step_same k.cl m hz C0
    have hev : ∀ e ∈ k.cl.ev hz C0, e.op = 0 := fun e he => by
      unfold Cl.ev at he
      split at he
      · rw [List.mem_singleton] at he
        rw [he]
      · simp at he
    generalize k.cl.step m hz C0 = c1 at *
    rcases hf.pr with h1 | h1 | h1
    · rw [h1, Pu.after_0] at ok' ⊢
      exact ⟨⟨ok', ⟨_, hf⟩, a, .inl hp0⟩, rfl, hev⟩
    · obtain ⟨u1, _⟩ := hf.p1 h1
      have q1 := hf.ok.s0
      have q2 := hf.ok.s1
      rw [s1, hct] at u1
      rw [s2, hcs] at q2
      exact absurd u1 (hno _ q1 q2)
    · rw [h1, Pu.after_2] at ok' ⊢
      exact ⟨⟨ok', ⟨_, hf⟩, a, .inr rfl⟩, rfl, hev⟩

/-- A put alone: into place j; or there is no room. -/
def OneP (k : Pu) (C C0 : List Int) (t s : Int) (N : Nat) (m : Int) (nb hz j : Nat) (now M h : Int) : Prop :=
  (m ≤ (j : Int) ∧ (j : Int) < m + s ∧ usable C0 t hz j ∧ (∀ i : Int, m ≤ i → i < (j : Int) → ¬ usable C0 t hz i) ∧ Solo2 k C C0 N m nb hz j now M h) ∨ ((∀ i : Int, m ≤ i → i < m + s → ¬ usable C0 t hz i) ∧ SoloF k C0 N m nb hz ∧ C = C0 ∧ ∀ q, nb ≤ q → 0 ≤ C.getD q 0 ∧ C.getD q 0 ≤ M)
theorem OneP.step {k : Pu} {C C0 : List Int} {t s : Int} {N : Nat} {m : Int} {nb hz j : Nat} {now M h : Int} (S : OneP k C C0 t s N m nb hz j now M h) (ht : k.t = t) (hs : k.s = s) (m0 : 0 ≤ M) (m1 : M < 1000) (n0 : 0 ≤ now) (n1 : now < 100000) (hn : ∀ i, 0 ≤ C.getD i 0) :
    OneP (k.step m nb hz C now) (k.cells N nb C now) C0 t s N m nb hz j (now + 1) (M + 1) h := by
  rcases S with ⟨a, b, c, d, e⟩ | ⟨a, b, rfl, d⟩
  · exact .inl ⟨a, b, c, d, e.step a (by rw [hs]; exact b) (by rw [ht]; exact c) (by rw [ht]; exact d) m0 m1 n0 n1 hn⟩
  · obtain ⟨h1, h2, _⟩ := b.step (by rw [hs, ht]; exact a) n0 hn
    rw [h2]
    exact .inr ⟨a, h1, rfl, fun q hq => by have := d q hq; omega⟩
theorem OneP.ok {k : Pu} {C C0 : List Int} {t s : Int} {N : Nat} {m : Int} {nb hz j : Nat} {now M h : Int} (S : OneP k C C0 t s N m nb hz j now M h) : k.Ok N m nb hz C := by
  rcases S with ⟨a, b, c, d, e⟩ | ⟨a, b, rfl, d⟩
  · exact e.ok
  · exact b.ok
theorem OneP.num {k : Pu} {C C0 : List Int} {t s : Int} {N : Nat} {m : Int} {nb hz j : Nat} {now M h : Int} (S : OneP k C C0 t s N m nb hz j now M h) : ∀ q, nb ≤ q → 0 ≤ C.getD q 0 ∧ C.getD q 0 ≤ M := by
  rcases S with ⟨a, b, c, d, e⟩ | ⟨a, b, rfl, d⟩
  · exact e.date.num
  · exact d

/-- A thread's places, behind i puts; of which the last stamp ends at h. -/
structure Own1 (C : List Int) (t s so d who : Int) (N : Nat) (m nb i : Nat) (now h : Int) : Prop where
  len : C.length = nb + t.toNat
  live : ∀ q : Nat, q < i → (q : Int) < s → C.getD (m + q) 0 % 4 = 1
  zero : ∀ q : Nat, i ≤ q → (q : Int) < s → C.getD (m + q) 0 = 0
  num : ∀ q, nb ≤ q → 0 ≤ C.getD q 0 ∧ C.getD q 0 ≤ now
  bel : Bel nb (tk0 t s so d who) (numC nb C) now h
theorem usable_zero {C : List Int} {t : Int} {hz : Nat} {j : Nat} (h : C.getD j 0 = 0) : usable C t hz j := by
  have e : ((j : Nat) : Int).toNat = j := Int.toNat_natCast j
  unfold usable
  rw [e, h]
  exact ⟨by decide, .inl (by decide)⟩
theorem usable_live {C : List Int} {t : Int} {hz : Nat} {j : Nat} (h : C.getD j 0 % 4 = 1) : ¬ usable C t hz j := by
  have e : ((j : Nat) : Int).toNat = j := Int.toNat_natCast j
  unfold usable
  rw [e]
  omega
theorem Own1.one {C : List Int} {t s so d who e value : Int} {N m nb hz i : Nat} {now h : Int} (O : Own1 C t s so d who N m nb i now h) (hok : (pu0 t s so d who e value m).Ok N m nb hz C) (hm : who * s = m) (n0 : 0 ≤ now) :
    OneP (pu0 t s so d who e value m) C C t s N m nb hz (m + i) now now h := by
  rcases Int.lt_or_le (i : Int) s with hi | hi
  · refine .inl ⟨by omega, by omega, usable_zero (O.zero i (Nat.le_refl _) hi), fun q h1 h2 => ?_, Solo2.start hok hm O.num n0 O.bel⟩
    obtain ⟨q', rfl⟩ : ∃ q' : Nat, q = ((m + q' : Nat) : Int) := ⟨(q - m).toNat, by omega⟩
    exact usable_live (O.live q' (by omega) (by omega))
  · refine .inr ⟨fun q h1 h2 => ?_, ⟨hok, ⟨0, Fd.start t s so d who hok.cl.lay hok.cl.hz hok.cl.len hok.cl.w0 hok.cl.w1 hm hok.cl.m0 hok.cl.m1⟩, rfl, .inl rfl⟩, rfl, O.num⟩
    obtain ⟨q', rfl⟩ : ∃ q' : Nat, q = ((m + q' : Nat) : Int) := ⟨(q - m).toNat, by omega⟩
    exact usable_live (O.live q' (by omega) (by omega))
/-- Behind a put that was done. -/
theorem Own1.did {C C' : List Int} {t s so d who e value : Int} {N m nb hz i : Nat} {now now' h : Int} {k : Pu} (O : Own1 C t s so d who N m nb i now h) (S : Solo2 k C' C N m nb hz (m + i) now' now' h) (hs : (pu0 t s so d who e value m).Same k) (hp : k.ph = 1) (hi : (i : Int) < s) (hmN : (m : Int) + s ≤ N) (t1 : 1 ≤ t) (hnb : (nb : Int) = 2 * N + t) :
    k.cl.slot = ((m + i : Nat) : Int) ∧ k.cl.wg = 0 ∧ h < k.tk.lo ∧ C'.getD (N + (m + i)) 0 = value ∧ C'.getD (m + i) 0 = k.pack ∧ Own1 C' t s so d who N m nb (i + 1) now' k.tk.hi := by
  obtain ⟨hc, ht⟩ := S.fin hp
  obtain ⟨q, hf⟩ := S.fd
  have hsl := S.slot hc
  have hz0 := O.zero i (Nat.le_refl _) hi
  have hg : k.cl.wg = 0 := by
    have h1 := (hf.p1 hc).2.2.2.1
    rw [hsl, Int.toNat_natCast, hz0] at h1
    exact h1
  obtain ⟨d1, d2, d3, d4, d5⟩ := S.date.done ht
  obtain ⟨p1, p2, p3, p4, p5, p6, p7⟩ := pack_parts S.ok hc ht
  have hpk := S.pack hp
  refine ⟨hsl, hg, d1, (S.value (.inl hp)).trans hs.value, hpk, S.len.trans O.len, fun q h1 h2 => ?_, fun q h1 h2 => ?_, S.date.num, ?_⟩
  · rcases (by omega : q < i ∨ q = i) with h3 | rfl
    · rw [S.other (m + q) (by omega) (by omega) (by omega)]
      exact O.live q h3 h2
    · rw [hpk]
      exact p1
  · rw [S.other (m + q) (by omega) (by omega) (by omega)]
    exact O.zero q (by omega) h2
  · have := d5 (tk0 t s so d who) hs.tso.symm (by rw [hs.t]; rfl) rfl
    exact this
/-- Behind one for which there was no room. -/
theorem Own1.wait {C : List Int} {t s so d who : Int} {N m nb i : Nat} {now now' h : Int} (O : Own1 C t s so d who N m nb i now h) (hi : s ≤ (i : Int)) (hn : now ≤ now') (hnum : ∀ q, nb ≤ q → 0 ≤ C.getD q 0 ∧ C.getD q 0 ≤ now') : Own1 C t s so d who N m nb (i + 1) now' h :=
  ⟨O.len, fun q h1 h2 => O.live q (by omega) h2, fun q h1 h2 => by omega, hnum, O.bel.mono (fun _ => Int.le_refl _) hn⟩

end Go.Proofs.Ytoogdfjlodchhaa
