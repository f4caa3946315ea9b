/-
  Plain lemmas on puts by several threads, beside each other, each into its own first place; and what a call holds that has them in a row. No condition.
-/
import Derived.Test.YtoogdfjlodchhaaPutAlonePure
import Derived.Test.YtoogdfjlodchhaaPutLaw
import Derived.Test.YtoogdfjlodchhaaRows2
namespace Go.Proofs.Ytoogdfjlodchhaa
open Go.RowKit
set_option linter.unusedVariables false

/-- A put of thread i that is under way; its first place is mi. -/
structure Each (t s so d : Int) (N nb hz i mi : Nat) (k : Pu) (C : List Int) (now : Int) : Prop where
  ok : k.Ok N mi nb hz C
  same : (pu0 t s so d i 1 (100 + i) mi).Same k
  find : k.ph = 0 → k.next = 0 → k.cl = cl0 t s so d i mi ∧ k.tk = tk0 t s so d i ∧ C.getD mi 0 = 0
  slot : k.cl.ph = 1 → k.cl.slot = mi
  date : k.tk.ph = 0 → Go1 nb k.tk (numC nb C) now now
  tph : k.tk.ph = 0 ∨ k.tk.ph = 1
  value : k.ph = 1 ∨ k.next = 3 → C.getD (N + mi) 0 = k.value
  pack : k.ph = 1 → C.getD mi 0 = k.pack
  fin : k.ph = 1 → k.cl.ph = 1 ∧ k.tk.ph = 1
  ph : k.ph = 0 ∨ k.ph = 1

/-- What a step of thread i leaves. -/
structure MStep (t : Int) (so : Int) (N nb i mi : Nat) (C C' : List Int) (now : Int) : Prop where
  len : C'.length = C.length
  oth : ∀ q, q < nb → q ≠ mi → q ≠ N + mi → C'.getD q 0 = C.getD q 0
  up : Up nb so i t (numC nb C) (numC nb C')
  num : Most1 (numC nb C') (now + 1)

theorem Each.other {t s so d : Int} {N nb hz i mi e me : Nat} {k : Pu} {C C' : List Int} {now : Int} (E : Each t s so d N nb hz e me k C now) (S : MStep t so N nb i mi C C' now) (hne : e ≠ i) (hm : me ≠ mi) (hN : me < N) (hN2 : mi < N) (hnb : (nb : Int) = 2 * N + t) (ht : 1 ≤ t) : Each t s so d N nb hz e me k C' (now + 1) := by
  have h1 : C'.getD me 0 = C.getD me 0 := S.oth me (by omega) hm (by omega)
  have h2 : C'.getD (N + me) 0 = C.getD (N + me) 0 := S.oth (N + me) (by omega) (by omega) (by omega)
  refine ⟨E.ok.cells S.len, E.same, fun a b => by rw [h1]; exact E.find a b, E.slot, fun a => ?_, E.tph, fun a => by rw [h2]; exact E.value a, fun a => by rw [h1]; exact E.pack a, E.fin, E.ph⟩
  have hw : k.tk.who = (e : Int) := E.ok.tw.trans E.same.who
  have htt : k.tk.t = t := E.ok.tt.trans E.same.t
  have hso : k.tk.so = so := E.same.tso
  have hlt := E.ok.tk.w1
  exact (E.date a).other (by rw [hso]; exact S.up) (by rw [hw]; omega) E.ok.tk.w0 (by rw [← htt]; exact hlt) (by omega) (by omega)

theorem up_low {nb : Nat} {so who t : Int} {C C' : List Int} (h : numC nb C' = numC nb C) : Up nb so who t (numC nb C) (numC nb C') := by
  rw [h]
  exact up_refl _ _ _ _ _

set_option maxHeartbeats 1000000 in
theorem Each.step {t s so d : Int} {N nb hz i mi : Nat} {k : Pu} {C : List Int} {now : Int} (E : Each t s so d N nb hz i mi k C now) (hM : Most1 (numC nb C) now) (hN : mi < N) (n0 : 0 ≤ now) (n1 : now < 1000) (hn : ∀ j, 0 ≤ C.getD j 0) :
    Each t s so d N nb hz i mi (k.step mi nb hz C now) (k.cells N nb C now) (now + 1) ∧ MStep t so N nb i mi C (k.cells N nb C now) now := by
  have ok' := (E.ok.next_ (now := now) n0 hn).1.cells (Pu.cells_len k N nb C now)
  have sm := E.same.trans (Pu.step_same k mi nb hz C now)
  have hlen := Pu.cells_len k N nb C now
  have hnt := E.ok.tk.nt
  have hCl := E.ok.tk.len
  have htt : k.tk.t = t := E.ok.tt.trans E.same.t
  have hso : k.tk.so = so := E.same.tso
  have hww : k.tk.who = (i : Int) := E.ok.tw.trans E.same.who
  have ht1 := E.ok.tk.lay.t1
  have hC2 : C.length = nb + t.toNat := by rw [hCl, htt]
  have keep1 : ∀ {C' : List Int}, numC nb C' = numC nb C → Most1 (numC nb C') (now + 1) := fun h => by rw [h]; exact most_up hM
  unfold Pu.step Pu.cells at *
  by_cases hp : k.ph ≠ 0
  · rw [if_pos hp] at ok' sm hlen ⊢
    rw [if_pos hp]
    have hp1 : k.ph = 1 := E.ph.resolve_left hp
    exact ⟨⟨E.ok, E.same, E.find, E.slot, fun a => (E.date a).mono (by omega) (by omega), E.tph, E.value, E.pack, E.fin, E.ph⟩, ⟨rfl, fun q _ _ _ => rfl, up_refl _ _ _ _ _, most_up hM⟩⟩
  · have hp0 : k.ph = 0 := Classical.not_not.1 hp
    rw [if_neg hp] at ok' sm hlen ⊢
    rw [if_neg hp] at ok' ⊢
    rcases E.ok.at' hp0 with ⟨a, b, c⟩ | ⟨a, b, c⟩ | ⟨a, b, c⟩ | ⟨a, b, c⟩
    · rw [if_pos a] at ok' sm hlen ⊢
      rw [if_pos a] at ok' ⊢
      obtain ⟨f1, f2, f3⟩ := E.find hp0 a
      have hc1 : k.cl.step mi hz C = { k.cl.word 0 with ph := 1 } := by
        unfold Cl.step
        rw [if_pos b, if_pos (by rw [f1]; rfl)]
        have e1 : k.cl.cell hz = mi := by rw [f1]; rfl
        rw [e1, f3]
        unfold Cl.look
        rw [if_neg (by decide), if_pos (by decide)]
      have h1 : (k.cl.step mi hz C).ph = 1 := by rw [hc1]
      have h2 : (k.cl.step mi hz C).slot = mi := by rw [hc1, f1]; rfl
      generalize k.cl.step mi hz C = c1 at *
      rw [h1, Pu.after_1] at ok' sm ⊢
      exact ⟨⟨ok', sm, fun _ h3 => by have h4 : k.next + 1 = 0 := h3; omega, fun _ => h2, fun a => (E.date a).mono (by omega) (by omega), E.tph, fun h3 => by rcases h3 with h3 | h3 <;> (simp only at h3; omega), fun h3 => by simp only at h3; omega, fun h3 => by simp only at h3; omega, .inl hp0⟩, ⟨rfl, fun q _ _ _ => rfl, up_refl _ _ _ _ _, most_up hM⟩⟩
    · have e0 : ¬ k.next = 0 := by omega
      rw [if_neg e0, if_pos a] at ok' sm hlen ⊢
      rw [if_neg e0, if_pos a] at ok' ⊢
      have hk' : k.tk.Ok nb N (numC nb C) := E.ok.tk.cells (numC_len (by omega))
      obtain ⟨ha, hm, hu⟩ := adv_step hk' (E.date c) hM n0 n1 n0 (by omega)
      rw [stp_num] at ha hm hu
      simp only at ha hm hu
      rw [hso, hww, htt] at hu
      have hkeep : ∀ q, q < nb → (stp nb k.tk C now).2.1.getD q 0 = C.getD q 0 := fun q hq => stp_keep nb k.tk C now hq
      have hs := stp_same nb k.tk C now
      generalize (stp nb k.tk C now).1 = k1 at *
      generalize (stp nb k.tk C now).2.1 = C1 at *
      have hST : MStep t so N nb i mi C C1 now := ⟨hlen, fun q h1 _ _ => hkeep q h1, hu, hm⟩
      rcases ha with ⟨h1, g1, _⟩ | ⟨h1, _⟩
      · rw [h1, Pu.after_0] at ok' sm ⊢
        exact ⟨⟨ok', sm, fun _ h3 => by have h4 : k.next = 0 := h3; omega, E.slot, fun _ => g1, .inl h1, fun h3 => by rcases h3 with h3 | h3 <;> (simp only at h3; omega), fun h3 => by simp only at h3; omega, fun h3 => by simp only at h3; omega, .inl hp0⟩, hST⟩
      · rw [h1, Pu.after_1] at ok' sm ⊢
        exact ⟨⟨ok', sm, fun _ h3 => by have h4 : k.next + 1 = 0 := h3; omega, E.slot, fun h3 => by have h4 : k1.ph = 0 := h3; omega, .inr h1, fun h3 => by rcases h3 with h3 | h3 <;> (simp only at h3; omega), fun h3 => by simp only at h3; omega, fun h3 => by simp only at h3; omega, .inl hp0⟩, hST⟩
    · have e0 : ¬ k.next = 0 := by omega
      have e1 : ¬ k.next = 1 := by omega
      rw [if_neg e0, if_neg e1, if_pos a] at ok' sm hlen ⊢
      rw [if_neg e0, if_neg e1, if_pos a] at ok' ⊢
      have hsl : k.cl.slot.toNat = mi := by have := E.slot b; omega
      rw [hsl] at ok' hlen ⊢
      have hnum : numC nb (C.set (N + mi) k.value) = numC nb C := numC_low (by omega)
      exact ⟨⟨ok', sm, fun _ h3 => by simp only at h3; omega, E.slot, fun h3 => by have h4 : k.tk.ph = 0 := h3; omega, .inr c, fun _ => getD_set_eq2 _ (by omega), fun h3 => by simp only at h3; omega, fun h3 => by simp only at h3; omega, .inl hp0⟩, ⟨hlen, fun q _ _ h4 => getD_set_ne2 _ (fun e => h4 e.symm), up_low hnum, keep1 hnum⟩⟩
    · have e0 : ¬ k.next = 0 := by omega
      have e1 : ¬ k.next = 1 := by omega
      have e2 : ¬ k.next = 2 := by omega
      rw [if_neg e0, if_neg e1, if_neg e2] at ok' sm hlen ⊢
      rw [if_neg e0, if_neg e1, if_neg e2] at ok' ⊢
      have hsl : k.cl.slot.toNat = mi := by have := E.slot b; omega
      rw [hsl] at ok' hlen ⊢
      have hnum : numC nb (C.set mi k.pack) = numC nb C := numC_low (by omega)
      exact ⟨⟨ok', sm, fun h3 => by simp only at h3; omega, E.slot, fun h3 => by have h4 : k.tk.ph = 0 := h3; omega, .inr c, fun _ => (getD_set_ne2 _ (by omega)).trans (E.value (.inr a)), fun _ => getD_set_eq2 _ (by omega), fun _ => ⟨b, c⟩, .inr rfl⟩, ⟨hlen, fun q _ h3 _ => getD_set_ne2 _ (fun e => h3 e.symm), up_low hnum, keep1 hnum⟩⟩

abbrev PuB4 := Nat × Nat × Nat × Pu

/-- All of them. -/
structure Many (t s so d : Int) (sn N nb hz n : Nat) (C : List Int) (Ks : List PuB4) (now : Int) : Prop where
  len : Ks.length = n
  le : (n : Int) ≤ t
  hs : s = sn
  sn1 : 1 ≤ sn
  fit : ∀ i : Nat, (i : Int) < t → i * sn + sn ≤ N
  nbe : (nb : Int) = 2 * N + t
  cl : C.length = nb + t.toNat
  num : Most1 (numC nb C) now
  each : ∀ (i b b1 b2 : Nat) (k : Pu), Ks[i]? = some (b, b1, b2, k) → Each t s so d N nb hz i (i * sn) k C now
  free : ∀ i : Nat, n ≤ i → (i : Int) < t → C.getD (i * sn) 0 = 0

theorem mset_cases {Ks : List PuB4} {i e : Nat} {x y z : PuB4} (hi : Ks[i]? = some x) (he : (Ks.set i y)[e]? = some z) : (e = i ∧ z = y) ∨ (e ≠ i ∧ Ks[e]? = some z) := by
  rw [List.getElem?_set] at he
  by_cases h : i = e
  · subst h
    rw [if_pos rfl, if_pos (List.getElem?_eq_some_iff.1 hi).1] at he
    exact .inl ⟨rfl, (Option.some.inj he).symm⟩
  · rw [if_neg h] at he
    exact .inr ⟨fun e => h e.symm, he⟩

section
variable {t s so d now : Int} {sn N nb hz n i b b1 b2 : Nat} {k : Pu} {C : List Int} {Ks : List PuB4}
theorem Many.lt (h : Many t s so d sn N nb hz n C Ks now) (hi : Ks[i]? = some (b, b1, b2, k)) : i < n ∧ (i : Int) < t := by
  have h1 := (List.getElem?_eq_some_iff.1 hi).1
  have h2 := h.len
  have h3 := h.le
  omega
theorem Many.step (h : Many t s so d sn N nb hz n C Ks now) (hi : Ks[i]? = some (b, b1, b2, k)) (n0 : 0 ≤ now) (n1 : now < 1000) (hn : ∀ j, 0 ≤ C.getD j 0) :
    Many t s so d sn N nb hz n (k.cells N nb C now) (Ks.set i (b, b1, b2, k.step ((i * sn : Nat) : Int) nb hz C now)) (now + 1) := by
  obtain ⟨hin, hit⟩ := h.lt hi
  have hf := h.fit i hit
  have hs1 := h.sn1
  obtain ⟨E, S⟩ := (h.each i b b1 b2 k hi).step h.num (by omega) n0 n1 hn
  refine ⟨by rw [List.length_set]; exact h.len, h.le, h.hs, h.sn1, h.fit, h.nbe, S.len.trans h.cl, S.num, fun e c c1 c2 k' he => ?_, fun e he het => ?_⟩
  · rcases mset_cases hi he with ⟨rfl, hz⟩ | ⟨hne, he⟩
    · cases hz
      exact E
    · obtain ⟨hen, het⟩ := h.lt he
      have hf2 := h.fit e het
      refine (h.each e c c1 c2 k' he).other S hne (fun hh => hne (Nat.eq_of_mul_eq_mul_right hs1 hh)) (by omega) (by omega) h.nbe (by have := h.le; omega)
  · have hf2 := h.fit e het
    rw [S.oth (e * sn) (by have := h.nbe; have := h.le; omega) (fun hh => by have := Nat.eq_of_mul_eq_mul_right hs1 hh; omega) (by omega)]
    exact h.free e he het
theorem Many.more (h : Many t s so d sn N nb hz n C Ks now) (hl : Lay t s N) (hhz : (hz : Int) = 2 * N) (o0 : 0 ≤ so) (o1 : so ≤ 4) (d0 : 0 ≤ d) (d1 : d ≤ 100) (hnt : (n : Int) < t) (t4 : t ≤ 4) (n0 : 0 ≤ now) :
    Many t s so d sn N nb hz (n + 1) C (Ks ++ [(b, b1, b2, pu0 t s so d n 1 (100 + n) ((n * sn : Nat) : Int))]) now := by
  have hf := h.fit n hnt
  refine ⟨by rw [List.length_append, h.len]; rfl, by omega, h.hs, h.sn1, h.fit, h.nbe, h.cl, h.num, fun e c c1 c2 k' he => ?_, fun e he het => h.free e (by omega) het⟩
  rcases Nat.lt_or_ge e Ks.length with hlt | hge
  · rw [List.getElem?_append_left hlt] at he
    exact h.each e c c1 c2 k' he
  · rw [List.getElem?_append_right hge] at he
    rcases (by omega : e - Ks.length = 0 ∨ 1 ≤ e - Ks.length) with h0 | h0
    · rw [h0] at he
      cases Option.some.inj he
      obtain rfl : e = n := by have := h.len; omega
      have hm : (e : Int) * s = ((e * sn : Nat) : Int) := by rw [h.hs, Int.natCast_mul]
      have hsn := h.hs
      exact ⟨pu0_ok hl hhz h.nbe h.cl (by omega) hnt hm (by omega) (by omega) o0 o1 d0 d1 (by decide) (by decide) (by omega) (by omega), Pu.Same.refl _, fun _ _ => ⟨rfl, rfl, h.free e (Nat.le_refl _) hnt⟩, fun hh => by exact absurd hh (by simp [pu0, cl0]), fun _ => Go1.begun t s so d e (by omega) n0, .inl rfl, fun hh => by rcases hh with hh | hh <;> exact absurd hh (by simp [pu0]), fun hh => by exact absurd hh (by simp [pu0]), fun hh => by exact absurd hh (by simp [pu0]), .inl rfl⟩
    · rw [List.getElem?_eq_none (by simpa using h0)] at he
      cases he

/-- How many steps are left, in round r; those ahead of e have had theirs. -/
def Rest (Q : Int) (sn r e : Nat) (Ks : List PuB4) : Prop := ∀ (i b b1 b2 : Nat) (k : Pu), Ks[i]? = some (b, b1, b2, k) → k.ph = 0 → k.rem ((i * sn : Nat) : Int) + r + (if i < e then 1 else 0) ≤ Q
theorem Rest.step {Q : Int} {r : Nat} (R : Rest Q sn r i Ks) (h : Many t s so d sn N nb hz n C Ks now) (hi : Ks[i]? = some (b, b1, b2, k)) (n0 : 0 ≤ now) (hn : ∀ j, 0 ≤ C.getD j 0) : Rest Q sn r (i + 1) (Ks.set i (b, b1, b2, k.step ((i * sn : Nat) : Int) nb hz C now)) := fun e c c1 c2 k' he hp => by
  rcases mset_cases hi he with ⟨rfl, hz⟩ | ⟨hne, he⟩
  · cases hz
    have hk := (h.each _ b b1 b2 k hi).ok.next_ (now := now) n0 hn
    by_cases hp0 : k.ph = 0
    · have h1 := hk.2 hp0
      have h2 := R _ b b1 b2 k hi hp0
      rw [if_neg (by omega)] at h2
      rw [if_pos (by omega)]
      omega
    · rw [show k.step ((e * sn : Nat) : Int) nb hz C now = k from if_pos hp0] at hp
      exact absurd hp hp0
  · have h2 := R e c c1 c2 k' he hp
    by_cases hei : e < i
    · rw [if_pos hei] at h2
      rw [if_pos (by omega)]
      exact h2
    · rw [if_neg hei] at h2
      rw [if_neg (by omega)]
      exact h2
/-- Whoever steps, none is left more. -/
theorem Rest.any {Q : Int} (R : Rest Q sn 0 0 Ks) (h : Many t s so d sn N nb hz n C Ks now) (hi : Ks[i]? = some (b, b1, b2, k)) (n0 : 0 ≤ now) (hn : ∀ j, 0 ≤ C.getD j 0) : Rest Q sn 0 0 (Ks.set i (b, b1, b2, k.step ((i * sn : Nat) : Int) nb hz C now)) := fun e c c1 c2 k' he hp => by
  rw [if_neg (Nat.not_lt_zero _)]
  rcases mset_cases hi he with ⟨rfl, hz⟩ | ⟨hne, he⟩
  · cases hz
    have hk := (h.each _ b b1 b2 k hi).ok.next_ (now := now) n0 hn
    by_cases hp0 : k.ph = 0
    · have h1 := hk.2 hp0
      have h2 := R _ b b1 b2 k hi hp0
      rw [if_neg (Nat.not_lt_zero _)] at h2
      omega
    · rw [show k.step ((e * sn : Nat) : Int) nb hz C now = k from if_pos hp0] at hp
      exact absurd hp hp0
  · have h2 := R e c c1 c2 k' he hp
    rw [if_neg (Nat.not_lt_zero _)] at h2
    exact h2
theorem Rest.round {Q : Int} {r : Nat} (R : Rest Q sn r n Ks) (h : Many t s so d sn N nb hz n C Ks now) : Rest Q sn (r + 1) 0 Ks := fun e c c1 c2 k' he hp => by
  have h2 := R e c c1 c2 k' he hp
  rw [if_pos (h.lt he).1] at h2
  rw [if_neg (Nat.not_lt_zero _)]
  omega
theorem Rest.more {Q : Int} (R : Rest Q sn 0 0 Ks) (h : Many t s so d sn N nb hz n C Ks now) (hQ : s * (t + 1) + most t so d + 2 ≤ Q) : Rest Q sn 0 0 (Ks ++ [(b, b1, b2, pu0 t s so d n 1 (100 + n) ((n * sn : Nat) : Int))]) := fun e c c1 c2 k' he hp => by
  rcases Nat.lt_or_ge e Ks.length with hlt | hge
  · rw [List.getElem?_append_left hlt] at he
    exact R e c c1 c2 k' he hp
  · rw [List.getElem?_append_right hge] at he
    rcases (by omega : e - Ks.length = 0 ∨ 1 ≤ e - Ks.length) with h0 | h0
    · rw [h0] at he
      cases Option.some.inj he
      obtain rfl : e = n := by have := h.len; omega
      rw [pu0_rem, if_neg (Nat.not_lt_zero _)]
      omega
    · rw [List.getElem?_eq_none (by simpa using h0)] at he
      cases he
theorem Many.over {Q : Nat} (h : Many t s so d sn N nb hz n C Ks now) (R : Rest Q sn Q 0 Ks) (hi : Ks[i]? = some (b, b1, b2, k)) : k.ph = 1 := by
  refine (h.each i b b1 b2 k hi).ph.resolve_left (fun hp => ?_)
  have h1 := R i b b1 b2 k hi hp
  have h2 := Pu.rem_pos (h.each i b b1 b2 k hi).ok hp
  rw [if_neg (Nat.not_lt_zero _)] at h1
  omega
end

/-- Cells, the row of pointers, and the puts. -/
def ManyHold (W w : World) (e : TypeId) (p c : Nat) (v : Value) (C : List Int) (L : List Ev) (va : Value) (Ks : List PuB4) : Prop :=
  Hold W w (tMem W.heap.size p c v C L :: tRow W.heap.size e 1 va Ks.length (Ks.map fun x => pt x.1) :: Ks.map fun x => tPu W.heap.size x.1 x.2.1 x.2.2.1 x.2.2.2)

section
variable {W w w' : World} {e : TypeId} {p c : Nat} {v v' va va' : Value} {C C' : List Int} {L L' : List Ev} {Ks : List PuB4} {i b b1 b2 : Nat} {k : Pu}
theorem ManyHold.mem (h : ManyHold W w e p c v C L va Ks) : IsMem W.heap.size w p c v C L := Hold.has h 0 _ rfl
theorem ManyHold.row (h : ManyHold W w e p c v C L va Ks) : w.ownsRow W.heap.size e 1 va Ks.length (Ks.map fun x => pt x.1) := Hold.has h 1 _ rfl
theorem ManyHold.later (h : ManyHold W w e p c v C L va Ks) (hb : Below w.heap.size w w') : ManyHold W w' e p c v C L va Ks := Hold.later h hb
theorem ManyHold.size (h : ManyHold W w e p c v C L va Ks) : W.heap.size ≤ w.heap.size := Hold.size h
theorem ManyHold.below (h : ManyHold W w e p c v C L va Ks) : Below W.heap.size W w := Hold.below h
theorem ManyHold.key (hi : Ks[i]? = some (b, b1, b2, k)) : (tMem W.heap.size p c v C L :: tRow W.heap.size e 1 va Ks.length (Ks.map fun x => pt x.1) :: Ks.map fun x => tPu W.heap.size x.1 x.2.1 x.2.2.1 x.2.2.2)[i + 2]? = some (tPu W.heap.size b b1 b2 k) := by
  show (Ks.map fun x => tPu W.heap.size x.1 x.2.1 x.2.2.1 x.2.2.2)[i]? = _
  rw [List.getElem?_map, hi]
  rfl
theorem ManyHold.pu (h : ManyHold W w e p c v C L va Ks) (hi : Ks[i]? = some (b, b1, b2, k)) : IsPu w b b1 b2 k := (Hold.has h (i + 2) _ (ManyHold.key hi)).1
theorem ManyHold.at' {g n cap : Nat} (h : ManyHold W w e p c v C L (.slice (some ⟨g, 0, none⟩) n cap) Ks) (hi : Ks[i]? = some (b, b1, b2, k)) : w.cell? ⟨g, i, none⟩ = some (pt b) := by
  have hl := (List.getElem?_eq_some_iff.1 hi).1
  obtain ⟨g', cap', hv, hc, _⟩ := row_shape h.row (by omega)
  cases hv
  rw [h.row.cellAt i (by simpa using hl), List.getElem?_map, hi]
  rfl
/-- As it begins. -/
theorem ManyHold.start (h : Hold W w [tMem W.heap.size p c v C L]) : ManyHold W (w.alloc (.cells #[] e)) e p c v C L (.slice (some ⟨w.heap.size, 0, none⟩) 0 0) [] :=
  Hold.more h (below_new (Below.refl _ _) _) (tRow_ok _ _ _ _ _ _) (tRow_made w W.heap.size e 1 h.size) tRow_new
/-- A step of the i-th. -/
theorem ManyHold.call {N : Nat} {m : Int} {nb hz : Nat} {now : Int} (h : ManyHold W w e p c v C L va Ks) (hi : Ks[i]? = some (b, b1, b2, k)) (hk : k.Ok N m nb hz C) (n0 : 0 ≤ now) (hL : L.length < 1000000000) :
    Calls Try.prog 34 #[pt b, pt p, i64 now] w fun r w' => r = .returned (i64 (k.step m nb hz C now).ph) ∧ ∃ v', ManyHold W w' e p c v' (k.cells N nb C now) (L ++ k.ev N nb hz C now) va (Ks.set i (b, b1, b2, k.step m nb hz C now)) :=
  (pustep_any W.heap.size w b b1 b2 p c v C L k N m nb hz now hk n0 (h.pu hi) h.mem (Hold.free h 0 (i + 2) (by omega) rfl (ManyHold.key hi)) h.size hL).mono fun r w' ⟨hr, v', hd, hs⟩ =>
    ⟨hr, v', by
      have hH := Hold.does h 0 (i + 2) (by omega) rfl (ManyHold.key hi) hd (tPu_ok W.heap.size b b1 b2 (k.step m nb hz C now)) ⟨hs, (Hold.has h (i + 2) _ (ManyHold.key hi)).2⟩ (fun q hq => hq)
      unfold ManyHold
      have e1 : (Ks.set i (b, b1, b2, k.step m nb hz C now)).map (fun x => pt x.1) = Ks.map fun x => pt x.1 := by
        rw [List.map_set]
        exact List.ext_getElem? fun q => by
          rw [List.getElem?_set]
          split
          · rename_i hq
            subst hq
            split
            · rw [List.getElem?_map, hi]
              rfl
            · rename_i hl
              rw [List.getElem?_eq_none (by simpa using hl)]
          · rfl
      rw [e1, List.length_set, List.map_set]
      exact hH⟩
/-- One more. -/
theorem ManyHold.more {w1 w2 : World} (h : ManyHold W w e p c v C L va Ks) (e1 : Below w.heap.size w w1) (hk : IsPu w1 b b1 b2 k) (hb : ∀ i, PuB b b1 b2 i → w.heap.size ≤ i) (e2 : Below w1.heap.size w1 w2) {w3 : World}
    (g : Grew w2 w3 W.heap.size e 1 va va' (Ks.length + 1) ((Ks.map fun x => pt x.1) ++ [pt b])) : ManyHold W w3 e p c v C L va' (Ks ++ [(b, b1, b2, k)]) := by
  have h1 : Hold W w1 _ := Hold.more h e1 (tPu_ok W.heap.size b b1 b2 k) ⟨hk, fun i hi => Nat.le_trans h.size (hb i hi)⟩ hb
  have h2 := Hold.append (h1.later e2) 1 rfl (by rfl) g
  unfold ManyHold
  rw [List.length_append, List.map_append, List.map_append]
  exact h2
end

end Go.Proofs.Ytoogdfjlodchhaa
