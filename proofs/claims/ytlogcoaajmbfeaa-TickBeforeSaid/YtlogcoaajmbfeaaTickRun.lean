/-
  Plain lemmas on stamps that are made by picks of threads: what was done ahead of another one's first step is before it. No condition.
-/
import Derived.Test.YtlogcoaajmbfeaaTickOrder
namespace Go.Proofs.Ytlogcoaajmbfeaa
open Go.RowKit
set_option linter.unusedVariables false

/-- A stamp that was made: from lo to hi; begun at the pick first, done at the pick last. -/
structure Dn where
  lo : Int
  hi : Int
  first : Int
  last : Int

/-- A stamp that a thread is making. -/
structure Ent (nb : Nat) (t so d now M : Int) (j : Nat) (k : Tk) (bg : Int) (C : List Int) (D : List Dn) : Prop where
  ok : k.Ok nb t C
  go : Go1 nb k C now M
  id : k.t = t ∧ k.so = so ∧ k.d = d ∧ k.who = j
  st : k.steps ≤ M
  bel : ∀ x ∈ D, x.last < bg → Bel nb k C now x.hi

structure InvR (nb : Nat) (t so d now0 : Int) (n : Nat) (Ks : List (Option (Nat × Tk))) (Bg : List Int) (C : List Int) (D : List Dn) (L : List Ev) : Prop where
  kl : (Ks.length : Int) = t
  bl : (Bg.length : Int) = t
  ent : ∀ j b k, Ks[j]? = some (some (b, k)) → Ent nb t so d (now0 + n) n j k (Bg.getD j 0) C D ∧ 0 ≤ Bg.getD j 0 ∧ Bg.getD j 0 ≤ n
  mo : Most1 C n
  cl : C.length = nb + t.toNat
  fr : ∀ x ∈ D, ∀ k0 : Tk, k0.so = so → k0.t = t → k0.steps = 0 → Bel nb k0 C (now0 + n) x.hi
  rt : ∀ x ∈ D, 0 ≤ x.lo ∧ x.lo ≤ x.hi ∧ x.hi < 16777215 ∧ x.first ≤ x.last ∧ x.last < n
  pd : ∀ x ∈ D, ∀ y ∈ D, x.last < y.first → x.hi < y.lo
  ll : L.length ≤ n
  dl : D.length ≤ n

theorem ok_len {nb : Nat} {n : Int} {k : Tk} {C C' : List Int} (h : k.Ok nb n C) (hl : C'.length = C.length) : k.Ok nb n C' :=
  ⟨h.lay, h.nt, hl.trans h.len, h.w0, h.w1, h.s0, h.s1, h.e0, h.e1, h.o0, h.o1, h.d0, h.d1, h.p0, h.p1, h.sw⟩
theorem ev_len (L : List Ev) (oe : Option Ev) : (L ++ oe.toList).length ≤ L.length + 1 := by cases oe <;> simp
theorem stp_inc (nb : Nat) (k : Tk) (C : List Int) (now : Int) : (stp nb k C now).1.steps ≤ k.steps + 1 := by
  unfold stp
  repeat' split
  all_goals first | (simp only [fin_steps]; omega) | (simp only; omega)
theorem Go1.new {nb : Nat} {t so d who now M : Int} {C : List Int} (hM : 0 ≤ M) (hw : 0 ≤ who) : Go1 nb (tk0 t 1 so d who) C now M :=
  ⟨rfl, fun _ => hM, fun _ h => absurd rfl h, fun _ h => by exact absurd h (by show ¬ (3 : Int) ≤ 0; decide), fun _ h => by have : who < 0 := h; omega, fun _ h => absurd rfl h⟩

section
variable {nb : Nat} {t so d now0 : Int} {n : Nat} {Ks : List (Option (Nat × Tk))} {Bg C : List Int} {D : List Dn} {L : List Ev}

theorem InvR.start (t1 : 1 ≤ t) (t2 : t ≤ 4) : InvR nb t so d now0 0 (List.replicate t.toNat none) (List.replicate t.toNat 0) (List.replicate (nb + t.toNat) 0) [] [] :=
  ⟨by simp; omega, by simp; omega, (fun j b k h => by rw [List.getElem?_replicate] at h; split at h <;> cases h), (fun j => by rw [zeros]; exact ⟨Int.le_refl _, Int.le_refl _⟩), by simp, fun x h => (by cases h), fun x h => (by cases h), fun x h => (by cases h), Nat.le_refl _, Nat.le_refl _⟩

theorem InvR.begin (h : InvR nb t so d now0 n Ks Bg C D L) (j b : Nat) (hj : (j : Int) < t) (hok : (tk0 t 1 so d j).Ok nb t C) : InvR nb t so d now0 n (Ks.set j (some (b, tk0 t 1 so d j))) (Bg.set j n) C D L := by
  have hkl := h.kl
  have hbl := h.bl
  refine ⟨by rw [List.length_set]; exact h.kl, by rw [List.length_set]; exact h.bl, fun i b' k hk => ?_, h.mo, h.cl, h.fr, h.rt, h.pd, h.ll, h.dl⟩
  rw [List.getElem?_set] at hk
  by_cases hij : j = i
  · subst hij
    rw [if_pos rfl, if_pos (by omega)] at hk
    cases hk
    rw [getD_set', if_pos ⟨rfl, by omega⟩]
    exact ⟨⟨hok, Go1.new (by omega) (by omega), ⟨rfl, rfl, rfl, rfl⟩, by show (0 : Int) ≤ n; omega, fun x hx _ => h.fr x hx _ rfl rfl rfl⟩, by omega, by omega⟩
  · rw [if_neg hij] at hk
    rw [getD_set', if_neg (fun hh => hij hh.1)]
    exact h.ent i b' k hk

/-- What a pick's step leaves. -/
theorem InvR.step (h : InvR nb t so d now0 n Ks Bg C D L) (j b : Nat) (k : Tk) (hj : (j : Int) < t) (hk : Ks[j]? = some (some (b, k))) (hn : n ≤ 120) (n0 : 0 ≤ now0) (n1 : now0 ≤ 65535) {k' : Tk} {C' : List Int} {oe : Option Ev} (hs : stp nb k C (now0 + n) = (k', C', oe)) :
    (k'.ph = 0 ∧ InvR nb t so d now0 (n + 1) (Ks.set j (some (b, k'))) Bg C' D (L ++ oe.toList)) ∨
    (k'.ph = 1 ∧ InvR nb t so d now0 (n + 1) (Ks.set j none) Bg C' (D ++ [⟨k'.lo, k'.hi, Bg.getD j 0, n⟩]) (L ++ oe.toList)) := by
  have hkl := h.kl
  obtain ⟨he, hb0, hb1⟩ := h.ent j b k hk
  have e1 : now0 + ((n + 1 : Nat) : Int) = now0 + n + 1 := by omega
  have e2 : ((n + 1 : Nat) : Int) = (n : Int) + 1 := by omega
  have had := adv_step he.ok he.go h.mo (by omega) (by omega) (by omega) (by omega)
  have hsm := stp_same nb k C (now0 + n)
  have hok := stp_ok nb t k C (now0 + n) he.ok (by have := he.st; omega) (by omega) (fun i => (h.mo i).1)
  have hinc := stp_inc nb k C (now0 + n)
  obtain ⟨i1, i2, i3, i4⟩ := he.id
  rw [hs] at had hsm hok hinc
  obtain ⟨ha, hm, hu⟩ := had
  obtain ⟨s1, s2, s3, s4, s5, s6⟩ := hsm
  simp only at s1 s2 s3 s4 s5 s6 hm hu hok hinc
  rw [i1, i2, i4] at hu
  have hlen := ev_len L oe
  have hll := h.ll
  have hdl := h.dl
  have other : ∀ i b' k2, i ≠ j → Ks[i]? = some (some (b', k2)) → Ent nb t so d (now0 + ((n + 1 : Nat) : Int)) ((n + 1 : Nat) : Int) i k2 (Bg.getD i 0) C' D ∧ 0 ≤ Bg.getD i 0 ∧ Bg.getD i 0 ≤ n := by
    intro i b' k2 hij hk2
    obtain ⟨g, g0, g1⟩ := h.ent i b' k2 hk2
    obtain ⟨a1, a2, a3, a4⟩ := g.id
    have hw1 := g.ok.w1
    refine ⟨⟨ok_len g.ok s6, g.go.other (by rw [a2]; exact hu) (by rw [a4]; omega) g.ok.w0 (by omega) (by omega) (by omega), g.id, by have := g.st; omega, fun x hx hl => (g.bel x hx hl).mono hu.up (by omega)⟩, g0, g1⟩
  have hfr : ∀ x ∈ D, ∀ k0 : Tk, k0.so = so → k0.t = t → k0.steps = 0 → Bel nb k0 C' (now0 + ((n + 1 : Nat) : Int)) x.hi := fun x hx k0 c1 c2 c3 => (h.fr x hx k0 c1 c2 c3).mono hu.up (by omega)
  rcases ha with ⟨hp, hg, hb⟩ | ⟨hp, l0, l1, l2, hb, hf⟩
  · refine .inl ⟨hp, ⟨by rw [List.length_set]; exact h.kl, h.bl, fun i b' k2 hk2 => ?_, by rw [e2]; exact hm, s6.trans h.cl, hfr, fun x hx => by have := h.rt x hx; omega, h.pd, by omega, by omega⟩⟩
    rw [List.getElem?_set] at hk2
    by_cases hij : j = i
    · subst hij
      rw [if_pos rfl, if_pos (by omega)] at hk2
      cases hk2
      exact ⟨⟨hok, by rw [e1, e2]; exact hg, ⟨s1.trans i1, s3.trans i2, s4.trans i3, s5.trans i4⟩, by have := he.st; omega, fun x hx hl => by rw [e1]; exact hb _ (he.bel x hx hl)⟩, hb0, by omega⟩
    · rw [if_neg hij] at hk2
      obtain ⟨g, g0, g1⟩ := other i b' k2 (fun e => hij e.symm) hk2
      exact ⟨g, g0, by omega⟩
  · refine .inr ⟨hp, ⟨by rw [List.length_set]; exact h.kl, h.bl, fun i b' k2 hk2 => ?_, by rw [e2]; exact hm, s6.trans h.cl, fun x hx => ?_, fun x hx => ?_, fun x hx y hy hl => ?_, by omega, by rw [List.length_append]; simp; omega⟩⟩
    · rw [List.getElem?_set] at hk2
      by_cases hij : j = i
      · subst hij
        rw [if_pos rfl, if_pos (by omega)] at hk2
        cases hk2
      · rw [if_neg hij] at hk2
        obtain ⟨g, g0, g1⟩ := other i b' k2 (fun e => hij e.symm) hk2
        refine ⟨⟨g.ok, g.go, g.id, g.st, fun x hx hl => ?_⟩, g0, by omega⟩
        rcases List.mem_append.1 hx with hx | hx
        · exact g.bel x hx hl
        · obtain rfl := List.mem_singleton.1 hx
          have : (n : Int) < Bg.getD i 0 := hl
          omega
    · rcases List.mem_append.1 hx with hx | hx
      · exact hfr x hx
      · obtain rfl := List.mem_singleton.1 hx
        intro k0 c1 c2 c3
        rw [e1]
        exact hf k0 (c1.trans i2.symm) (c2.trans i1.symm) c3
    · rcases List.mem_append.1 hx with hx | hx
      · have := h.rt x hx
        omega
      · obtain rfl := List.mem_singleton.1 hx
        exact ⟨l0, l1, l2, hb1, by show (n : Int) < _; omega⟩
    · rcases List.mem_append.1 hx with hx | hx
      · rcases List.mem_append.1 hy with hy | hy
        · exact h.pd x hx y hy hl
        · obtain rfl := List.mem_singleton.1 hy
          exact hb _ (he.bel x hx hl)
      · obtain rfl := List.mem_singleton.1 hx
        rcases List.mem_append.1 hy with hy | hy
        · have := h.rt y hy
          have : (n : Int) < y.first := hl
          omega
        · obtain rfl := List.mem_singleton.1 hy
          have : (n : Int) < Bg.getD j 0 := hl
          omega
end

end Go.Proofs.Ytlogcoaajmbfeaa
