/-
  Plain lemmas on a put that is done while nobody else does anything: where it is put, what its stamp is above of, what it leaves. No Go. No condition.
-/
import Derived.Test.YtemaghebpnjmoaaAPut
import Derived.Test.YtemaghebpnjmoaaTickOrder
namespace Go.Proofs.Ytemaghebpnjmoaa
open Go.RowKit
set_option linter.unusedVariables false

/-- The cells, those ahead of the numbers as nought. -/
def numC (nb : Nat) (C : List Int) : List Int := List.replicate nb 0 ++ C.drop nb

theorem numC_len {nb : Nat} {C : List Int} (h : nb ≤ C.length) : (numC nb C).length = C.length := by
  unfold numC
  rw [List.length_append, List.length_replicate, List.length_drop]
  omega
theorem numC_lo {nb : Nat} {C : List Int} {i : Nat} (h : i < nb) : (numC nb C).getD i 0 = 0 := by
  unfold numC
  rw [List.getD_eq_getElem?_getD, List.getElem?_append_left (by rw [List.length_replicate]; exact h), List.getElem?_replicate, if_pos h]
  rfl
theorem numC_hi {nb : Nat} {C : List Int} {i : Nat} (h : nb ≤ i) : (numC nb C).getD i 0 = C.getD i 0 := by
  unfold numC
  rw [List.getD_eq_getElem?_getD, List.getElem?_append_right (by rw [List.length_replicate]; exact h), List.length_replicate, List.getElem?_drop, List.getD_eq_getElem?_getD]
  congr 2
  omega
theorem numC_set {nb : Nat} {C : List Int} {q : Nat} {x : Int} : (numC nb C).set (nb + q) x = numC nb (C.set (nb + q) x) := by
  unfold numC
  rw [List.set_append_right _ _ (by rw [List.length_replicate]; omega), List.length_replicate, Nat.add_sub_cancel_left, List.drop_set, if_neg (by omega), Nat.add_sub_cancel_left]
theorem numC_low {nb : Nat} {C : List Int} {i : Nat} {x : Int} (h : i < nb) : numC nb (C.set i x) = numC nb C := by
  unfold numC
  rw [List.drop_set, if_pos h]
theorem numC_set0 {nb : Nat} {C : List Int} {x : Int} : (numC nb C).set nb x = numC nb (C.set nb x) := numC_set (q := 0)

/-- A stamp looks at the numbers alone. -/
theorem stp_num (nb : Nat) (k : Tk) (C : List Int) (now : Int) : stp nb k (numC nb C) now = ((stp nb k C now).1, numC nb (stp nb k C now).2.1, (stp nb k C now).2.2) := by
  have h0 : (numC nb C).getD nb 0 = C.getD nb 0 := numC_hi (Nat.le_refl _)
  have h1 : ∀ q, (numC nb C).getD (nb + q) 0 = C.getD (nb + q) 0 := fun q => numC_hi (by omega)
  unfold stp
  simp only [h0, h1, numC_set, numC_set0]
  repeat' split
  all_goals rfl
/-- .. and turns numbers alone. -/
theorem stp_keep (nb : Nat) (k : Tk) (C : List Int) (now : Int) {i : Nat} (h : i < nb) : (stp nb k C now).2.1.getD i 0 = C.getD i 0 := by
  have key : ∀ (q : Nat) (x : Int), (C.set (nb + q) x).getD i 0 = C.getD i 0 := fun q x => by
    rw [List.getD_eq_getElem?_getD, List.getElem?_set_ne (by omega), ← List.getD_eq_getElem?_getD]
  have key0 : ∀ (x : Int), (C.set nb x).getD i 0 = C.getD i 0 := key 0
  unfold stp
  repeat' split
  all_goals first | rfl | exact key _ _ | exact key0 _

theorem Go1.mono {nb : Nat} {k : Tk} {C : List Int} {now now' M M' : Int} (h : Go1 nb k C now M) (hn : now ≤ now') (hM : M ≤ M') : Go1 nb k C now' M' :=
  ⟨h.ph, fun a => Int.le_trans (h.seen a) hM, h.low, h.sw, h.own, fun a b => Int.le_trans (h.time a b) hn⟩
theorem Go1.begun {nb : Nat} {C : List Int} {now M : Int} (t s so d who : Int) (w0 : 0 ≤ who) (hM : 0 ≤ M) : Go1 nb (tk0 t s so d who) C now M :=
  ⟨rfl, fun _ => hM, fun _ h => absurd rfl h, fun _ h => by exact absurd h (by show ¬ (3 : Int) ≤ 0; decide), fun _ h => by have h' : who < 0 := h; omega, fun _ h => absurd rfl h⟩
theorem Bel.begun {nb : Nat} {C : List Int} {now : Int} (t s so d who : Int) (hC : ∀ j, 0 ≤ C.getD j 0) (n0 : 0 ≤ now) : Bel nb (tk0 t s so d who) C now (-1) := by
  have := hC nb
  unfold Bel
  split
  · omega
  · split
    · exact .inl (by show (-1 : Int) ≤ 0; decide)
    · split
      · exact ⟨fun _ => by omega, fun h => absurd rfl h⟩
      · exact ⟨fun _ => by omega, fun h => absurd rfl h⟩

/-- A stamp under way, or done, of which is known that it is above h, where the numbers are M at most. -/
structure Dated (nb : Nat) (t : Int) (k : Tk) (C : List Int) (now M h : Int) : Prop where
  num : ∀ q, nb ≤ q → 0 ≤ C.getD q 0 ∧ C.getD q 0 ≤ M
  go : k.ph = 0 → Go1 nb k (numC nb C) now M ∧ Bel nb k (numC nb C) now h
  done : k.ph = 1 → h < k.lo ∧ k.lo ≤ k.hi ∧ 0 ≤ k.lo ∧ k.hi < 16777215 ∧ ∀ k0 : Tk, k0.so = k.so → k0.t = t → k0.steps = 0 → Bel nb k0 (numC nb C) now k.hi
  ph : k.ph = 0 ∨ k.ph = 1
theorem Dated.most1 {nb : Nat} {t : Int} {k : Tk} {C : List Int} {now M h : Int} (D : Dated nb t k C now M h) (m0 : 0 ≤ M) : Most1 (numC nb C) M := fun j => by
  rcases Nat.lt_or_ge j nb with hj | hj
  · rw [numC_lo hj]
    omega
  · rw [numC_hi hj]
    exact D.num j hj
/-- Time goes by, and cells that are no numbers are turned. -/
theorem Dated.wait {nb : Nat} {t : Int} {k : Tk} {C C' : List Int} {now M h : Int} (D : Dated nb t k C now M h) (hC : numC nb C' = numC nb C) : Dated nb t k C' (now + 1) (M + 1) h := by
  have hq : ∀ q, nb ≤ q → C'.getD q 0 = C.getD q 0 := fun q hq => by rw [← numC_hi (C := C') hq, hC, numC_hi hq]
  refine ⟨fun q h => by rw [hq q h]; have := D.num q h; omega, fun hp => ?_, fun hp => ?_, D.ph⟩
  · rw [hC]
    exact ⟨(D.go hp).1.mono (by omega) (by omega), (D.go hp).2.mono (fun _ => Int.le_refl _) (by omega)⟩
  · rw [hC]
    obtain ⟨h1, h2, h3, h4, h5⟩ := D.done hp
    exact ⟨h1, h2, h3, h4, fun k0 a b c => (h5 k0 a b c).mono (fun _ => Int.le_refl _) (by omega)⟩
theorem Dated.step {nb : Nat} {n t : Int} {k : Tk} {C : List Int} {now M h : Int} (D : Dated nb t k C now M h) (hk : k.Ok nb n C) (ht : k.t = t) (hp : k.ph = 0) (m0 : 0 ≤ M) (m1 : M < 1000) (n0 : 0 ≤ now) (n1 : now < 100000) :
    Dated nb t (stp nb k C now).1 (stp nb k C now).2.1 (now + 1) (M + 1) h := by
  have hlen : nb ≤ C.length := by have := hk.len; omega
  have hk' : k.Ok nb n (numC nb C) := hk.cells (numC_len hlen)
  obtain ⟨ha, hm, hu⟩ := adv_step hk' (D.go hp).1 (D.most1 m0) m0 m1 n0 n1
  rw [stp_num] at ha hm hu
  simp only at ha hm hu
  obtain ⟨e1, e2, e3, e4, e5, e6⟩ := stp_same nb k C now
  refine ⟨fun q hq => ?_, fun h0 => ?_, fun h1 => ?_, ?_⟩
  · have := hm q
    rw [numC_hi hq] at this
    exact this
  · rcases ha with ⟨a, b, c⟩ | ⟨a, _⟩
    · exact ⟨b, c h (D.go hp).2⟩
    · omega
  · rcases ha with ⟨a, _⟩ | ⟨a, b, c, d, e, f⟩
    · omega
    · exact ⟨e h (D.go hp).2, c, b, d, fun k0 g1 g2 g3 => f k0 (by rw [g1, e3]) (by rw [g2, ht]) g3⟩
  · rcases ha with ⟨a, _⟩ | ⟨a, _⟩
    · exact .inl a
    · exact .inr a

/-- A put that is done alone, from cells C0, into place j, the first one that may be used. -/
structure Solo2 (k : Pu) (C C0 : List Int) (N : Nat) (m : Int) (nb hz j : Nat) (now M h : Int) : Prop where
  ok : k.Ok N m nb hz C
  fd : ∃ i, Fd k.cl C0 N m hz i
  len : C.length = C0.length
  other : ∀ i, i < nb → i ≠ j → i ≠ N + j → C.getD i 0 = C0.getD i 0
  word : k.ph ≠ 1 → C.getD j 0 = C0.getD j 0
  value : k.ph = 1 ∨ k.next = 3 → C.getD (N + j) 0 = k.value
  pack : k.ph = 1 → C.getD j 0 = k.pack
  wait : k.next = 0 → k.tk = tk0 k.tk.t k.tk.s k.tk.so k.tk.d k.tk.who ∧ (∀ i, C.getD i 0 = C0.getD i 0)
  slot : k.cl.ph = 1 → k.cl.slot = j
  date : Dated nb k.t k.tk C now M h
  ph : k.ph = 0 ∨ k.ph = 1
  fin : k.ph = 1 → k.cl.ph = 1 ∧ k.tk.ph = 1

theorem getD_same {C C' : List Int} (h : C'.length = C.length) (hi : ∀ i, C'.getD i 0 = C.getD i 0) : C' = C := by
  refine List.ext_getElem h (fun i h1 h2 => ?_)
  have := hi i
  rw [List.getD_eq_getElem?_getD, List.getD_eq_getElem?_getD, List.getElem?_eq_getElem h1, List.getElem?_eq_getElem h2] at this
  exact this
theorem getD_set_ne2 {C : List Int} {i j : Nat} (x : Int) (h : i ≠ j) : (C.set i x).getD j 0 = C.getD j 0 := by
  rw [List.getD_eq_getElem?_getD, List.getElem?_set_ne h, ← List.getD_eq_getElem?_getD]
theorem getD_set_eq2 {C : List Int} {i : Nat} (x : Int) (h : i < C.length) : (C.set i x).getD i 0 = x := by
  rw [List.getD_eq_getElem?_getD, List.getElem?_set_self h]
  rfl

theorem Solo2.start {t s so d who e value m : Int} {N nb hz j : Nat} {C : List Int} {now M h : Int} (hok : (pu0 t s so d who e value m).Ok N m nb hz C) (hm : who * s = m)
    (hnum : ∀ q, nb ≤ q → 0 ≤ C.getD q 0 ∧ C.getD q 0 ≤ M) (m0 : 0 ≤ M) (hB : Bel nb (tk0 t s so d who) (numC nb C) now h) : Solo2 (pu0 t s so d who e value m) C C N m nb hz j now M h :=
  ⟨hok, ⟨0, Fd.start t s so d who hok.cl.lay hok.cl.hz hok.cl.len hok.cl.w0 hok.cl.w1 hm hok.cl.m0 hok.cl.m1⟩, rfl, fun _ _ _ _ => rfl, fun _ => rfl, fun h => by rcases h with h | h <;> exact absurd h (by simp [pu0]), fun h => by exact absurd h (by simp [pu0]), fun _ => ⟨rfl, fun _ => rfl⟩,
    fun h => by exact absurd h (by simp [pu0, cl0]), ⟨hnum, fun _ => ⟨Go1.begun t s so d who hok.cl.w0 m0, hB⟩, fun h => by exact absurd h (by simp [pu0, tk0]), .inl rfl⟩, .inl rfl, fun h => by exact absurd h (by simp [pu0])⟩

set_option maxHeartbeats 1000000 in
theorem Solo2.step {k : Pu} {C C0 : List Int} {N : Nat} {m : Int} {nb hz j : Nat} {now M h : Int} (S : Solo2 k C C0 N m nb hz j now M h) (hj0 : m ≤ (j : Int)) (hj1 : (j : Int) < m + k.s) (hu : usable C0 k.t hz j) (hno : ∀ i : Int, m ≤ i → i < (j : Int) → ¬ usable C0 k.t hz i)
    (m0 : 0 ≤ M) (m1 : M < 1000) (n0 : 0 ≤ now) (n1 : now < 100000) (hn : ∀ i, 0 ≤ C.getD i 0) : Solo2 (k.step m nb hz C now) (k.cells N nb C now) C0 N m nb hz j (now + 1) (M + 1) h := by
  obtain ⟨ok', hrem⟩ := S.ok.next_ (now := now) n0 hn
  replace ok' := ok'.cells (Pu.cells_len k N nb C now)
  have hlen2 : (k.cells N nb C now).length = C0.length := (Pu.cells_len k N nb C now).trans S.len
  have hnt := S.ok.tk.nt
  have hCl := S.ok.tk.len
  have htt := S.ok.tt
  have hcs := S.ok.cs
  have hct := S.ok.ct
  have hm1 := S.ok.cl.m1
  have hm0 := S.ok.cl.m0
  have hjN : j < N := by omega
  have ht1 := S.ok.tk.lay.t1
  unfold Pu.step Pu.cells at ok' ⊢
  unfold Pu.cells at hlen2
  by_cases hp : k.ph ≠ 0
  · rw [if_pos hp, if_pos hp] at *
    have hp1 : k.ph = 1 := S.ph.resolve_left hp
    exact ⟨S.ok, S.fd, S.len, S.other, S.word, S.value, S.pack, S.wait, S.slot, S.date.wait rfl, S.ph, S.fin⟩
  · have hp0 : k.ph = 0 := Classical.not_not.1 hp
    rw [if_neg hp] at ok' hlen2 ⊢
    rw [if_neg hp] at ok' ⊢
    rcases S.ok.at' hp0 with ⟨a, b, c⟩ | ⟨a, b, c⟩ | ⟨a, b, c⟩ | ⟨a, b, c⟩
    · rw [if_pos a, if_pos a] at *
      obtain ⟨w1, w2⟩ := S.wait a
      have hCC : C = C0 := getD_same S.len w2
      obtain ⟨i, hfd⟩ := S.fd
      have hf := hfd.step
      obtain ⟨s1, s2, s3⟩ := Cl.step_same k.cl m hz C0
      rw [← hCC] at hf s1 s2 s3
      have hslot : (k.cl.step m hz C).ph = 1 → (k.cl.step m hz C).slot = j := fun h1 => by
        obtain ⟨u1, _⟩ := hf.p1 h1
        have q1 := hf.ok.s0
        have q2 := hf.ok.s1
        rcases Int.lt_trichotomy (k.cl.step m hz C).slot j with h2 | h2 | h2
        · refine absurd ?_ (hno _ q1 h2)
          rw [← hCC]
          rw [s1, hct] at u1
          exact u1
        · exact h2
        · refine absurd ?_ (hf.no j hj0 h2)
          rw [s1, hct, hCC]
          exact hu
      have hno2 : (k.cl.step m hz C).ph ≠ 2 := fun h2 => by
        obtain ⟨u1, u2⟩ := hf.p2 h2
        rw [s2, hcs] at u1
        rcases (by omega : (j : Int) < (k.cl.step m hz C).slot ∨ (j : Int) = (k.cl.step m hz C).slot) with h3 | h3
        · refine absurd ?_ (hf.no j hj0 h3)
          rw [s1, hct, hCC]
          exact hu
        · refine u2 ?_
          rw [← h3, s1, hct, hCC]
          exact hu
      have hpr := hf.pr
      generalize k.cl.step m hz C = c1 at *
      rcases hpr with h1 | h1 | h1
      · rw [h1, Pu.after_0] at ok' ⊢
        exact ⟨ok', ⟨_, hCC ▸ hf⟩, S.len, S.other, S.word, fun h2 => by rcases h2 with h2 | h2 <;> (simp only at h2; omega), fun h2 => by simp only at h2; omega, S.wait, fun h2 => by simp only at h2; omega, S.date.wait rfl, .inl hp0, fun h2 => by simp only at h2; omega⟩
      · rw [h1, Pu.after_1] at ok' ⊢
        exact ⟨ok', ⟨_, hCC ▸ hf⟩, S.len, S.other, S.word, fun h2 => by rcases h2 with h2 | h2 <;> (simp only at h2; omega), fun h2 => by simp only at h2; omega, fun h2 => by simp only at h2; omega, fun _ => hslot h1, S.date.wait rfl, .inl hp0, fun h2 => by simp only at h2; omega⟩
      · exact absurd h1 hno2
    · have e0 : ¬ k.next = 0 := by omega
      rw [if_neg e0, if_pos a] at ok' hlen2 ⊢
      rw [if_neg e0, if_pos a] at ok' ⊢
      have hD := S.date.step S.ok.tk htt c m0 m1 n0 n1
      have hkeep : ∀ i, i < nb → (stp nb k.tk C now).2.1.getD i 0 = C.getD i 0 := fun i hi => stp_keep nb k.tk C now hi
      have hph := hD.ph
      have hs := stp_same nb k.tk C now
      generalize (stp nb k.tk C now).1 = k1 at *
      generalize (stp nb k.tk C now).2.1 = C1 at *
      have hjn : j < nb := by omega
      rcases hph with h1 | h1
      · rw [h1, Pu.after_0] at ok' ⊢
        exact ⟨ok', S.fd, hlen2, fun i h2 h3 h4 => (hkeep i h2).trans (S.other i h2 h3 h4), fun h2 => (hkeep j hjn).trans (S.word (by omega)), fun h2 => by rcases h2 with h2 | h2 <;> (simp only at h2; omega), fun h2 => by simp only at h2; omega, fun h2 => by simp only at h2; omega, S.slot, hD, .inl hp0, fun h2 => by simp only at h2; omega⟩
      · rw [h1, Pu.after_1] at ok' ⊢
        exact ⟨ok', S.fd, hlen2, fun i h2 h3 h4 => (hkeep i h2).trans (S.other i h2 h3 h4), fun h2 => (hkeep j hjn).trans (S.word (by omega)), fun h2 => by rcases h2 with h2 | h2 <;> (simp only at h2; omega), fun h2 => by simp only at h2; omega, fun h2 => by simp only at h2; omega, S.slot, hD, .inl hp0, fun h2 => by simp only at h2; omega⟩
    · have e0 : ¬ k.next = 0 := by omega
      have e1 : ¬ k.next = 1 := by omega
      rw [if_neg e0, if_neg e1, if_pos a] at ok' hlen2 ⊢
      rw [if_neg e0, if_neg e1, if_pos a] at ok' ⊢
      have hsl : k.cl.slot.toNat = j := by have := S.slot b; omega
      rw [hsl] at ok' hlen2 ⊢
      have hnum : numC nb (C.set (N + j) k.value) = numC nb C := numC_low (by omega)
      exact ⟨ok', S.fd, hlen2, fun i h2 h3 h4 => (getD_set_ne2 _ (fun e => h4 e.symm)).trans (S.other i h2 h3 h4), fun _ => (getD_set_ne2 _ (by omega)).trans (S.word (by omega)), fun _ => getD_set_eq2 _ (by omega), fun h2 => by simp only at h2; omega, fun h2 => by simp only at h2; omega, S.slot, S.date.wait hnum, .inl hp0, fun h2 => by simp only at h2; omega⟩
    · have e0 : ¬ k.next = 0 := by omega
      have e1 : ¬ k.next = 1 := by omega
      have e2 : ¬ k.next = 2 := by omega
      rw [if_neg e0, if_neg e1, if_neg e2] at ok' hlen2 ⊢
      rw [if_neg e0, if_neg e1, if_neg e2] at ok' ⊢
      have hsl : k.cl.slot.toNat = j := by have := S.slot b; omega
      rw [hsl] at ok' hlen2 ⊢
      have hnum : numC nb (C.set j k.pack) = numC nb C := numC_low (by omega)
      exact ⟨ok', S.fd, hlen2, fun i h2 h3 h4 => (getD_set_ne2 _ (fun e => h3 e.symm)).trans (S.other i h2 h3 h4), fun h2 => absurd rfl h2, fun _ => (getD_set_ne2 _ (by omega)).trans (S.value (.inr a)), fun _ => getD_set_eq2 _ (by omega), fun h2 => by simp only at h2; omega, S.slot, S.date.wait hnum, .inr rfl, fun _ => ⟨b, c⟩⟩

end Go.Proofs.Ytemaghebpnjmoaa
