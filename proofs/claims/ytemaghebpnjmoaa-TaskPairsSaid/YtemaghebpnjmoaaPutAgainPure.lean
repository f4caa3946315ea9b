/-
  Plain lemmas: a word that is put in, part by part; a place that is used again. No Go. No condition.
-/
import Derived.Test.YtemaghebpnjmoaaPutSolo
namespace Go.Proofs.Ytemaghebpnjmoaa
open Go.RowKit
set_option linter.unusedVariables false

theorem numC_nn {nb : Nat} {C : List Int} (h : ∀ j, 0 ≤ C.getD j 0) : ∀ j, 0 ≤ (numC nb C).getD j 0 := fun j => by
  rcases Nat.lt_or_ge j nb with hj | hj
  · rw [numC_lo hj]
    exact Int.le_refl _
  · rw [numC_hi hj]
    exact h j
theorem pack_parts {k : Pu} {N : Nat} {m : Int} {nb hz : Nat} {C : List Int} (h : k.Ok N m nb hz C) (hc : k.cl.ph = 1) (ht : k.tk.ph = 1) :
    k.pack % 4 = 1 ∧ k.pack / 4 % 2 = k.e ∧ k.pack / 8 % 8192 = k.cl.wg + 1 ∧ k.pack / 65536 % 16777216 = k.tk.lo ∧ k.pack / 1099511627776 = k.tk.hi ∧ 0 ≤ k.pack ∧ k.pack ≤ 18446744073709551615 := by
  have h1 := h.wg (.inl hc)
  have h2 := h.st ht
  have h3 := h.e0
  have h4 := h.e1
  unfold Pu.pack
  omega

/-- Place 1 of two, of threads 0 and 1: used i times, free. -/
structure Free1 (C : List Int) (i : Int) : Prop where
  len : C.length = 8
  st : C.getD 1 0 % 4 = 0 ∨ C.getD 1 0 % 4 = 2
  gen : C.getD 1 0 / 8 % 8192 = i
  hz : C.getD 4 0 = 0 ∧ C.getD 5 0 = 0
theorem Free1.usable {C : List Int} {i : Int} (h : Free1 C i) (hi : i ≤ 100) : usable C 2 4 ((1 : Nat) : Int) := by
  refine ⟨by have := h.gen; show C.getD 1 0 / 8 % 8192 ≠ 8191; omega, ?_⟩
  rcases h.st with h1 | h1
  · exact .inl h1
  · refine .inr ⟨h1, fun e he => ?_⟩
    have := h.hz
    rcases (by omega : e = 0 ∨ e = 1) with rfl | rfl
    · show C.getD 4 0 ≠ 1 + 1
      omega
    · show C.getD 5 0 ≠ 1 + 1
      omega
/-- What is put in, and what is left once it is taken. -/
theorem Free1.next {C C0 : List Int} {k : Pu} {i now M h : Int} (S : Solo2 k C C0 2 1 6 4 1 now M h) (hp : k.ph = 1) (F : Free1 C0 i) (i0 : 0 ≤ i) (i1 : i ≤ 100) :
    k.cl.wg = i ∧ C.getD 1 0 = k.pack ∧ Free1 (C.set 1 (2 + 4 * k.e + 8 * (i + 1) + 65536 * k.tk.lo + 1099511627776 * k.tk.hi)) (i + 1) := by
  obtain ⟨hc, ht⟩ := S.fin hp
  obtain ⟨q, hf⟩ := S.fd
  have hg : k.cl.wg = i := by
    have h1 := (hf.p1 hc).2.2.2.1
    rw [S.slot hc] at h1
    have h2 := F.gen
    have e : ((1 : Nat) : Int).toNat = 1 := rfl
    rw [e] at h1
    omega
  have hlen : C.length = 8 := S.len.trans F.len
  have he0 := S.ok.e0
  have he1 := S.ok.e1
  have hst := S.ok.st ht
  refine ⟨hg, S.pack hp, by rw [List.length_set]; exact hlen, .inr ?_, ?_, ?_⟩
  · rw [getD_set_eq2 _ (by omega)]
    omega
  · rw [getD_set_eq2 _ (by omega)]
    omega
  · rw [getD_set_ne2 _ (by decide), getD_set_ne2 _ (by decide), S.other 4 (by decide) (by decide) (by decide), S.other 5 (by decide) (by decide) (by decide)]
    exact F.hz
theorem Free1.start : Free1 (List.replicate 8 0) 0 := ⟨rfl, .inl rfl, rfl, rfl, rfl⟩

end Go.Proofs.Ytemaghebpnjmoaa
