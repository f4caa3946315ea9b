/-
  Rows of events as what an append takes, and as what a call has made. No condition.
-/
import Derived.Test.YtpbpkmmhdfahnaaGreatEvRow
namespace Go.Proofs.YtpbpkmmhdfahnaaGreat
open Go.RowKit
set_option linter.unusedVariables false

theorem eflat_at : ∀ {L : List Ev} {i j : Nat} {e : Ev}, L[i]? = some e → j < 6 → (flatE L)[i * 6 + j]? = e.cells[j]?
  | [], i, j, e, h, _ => by simp at h
  | x :: L, 0, j, e, h, hj => by
    cases h
    have hl : x.cells.length = 6 := rfl
    rw [flatE, Nat.zero_mul, Nat.zero_add, List.getElem?_append_left (by omega)]
  | x :: L, i + 1, j, e, h, hj => by
    have hl : x.cells.length = 6 := rfl
    rw [flatE, List.getElem?_append_right (by omega), show (i + 1) * 6 + j - x.cells.length = i * 6 + j by omega]
    exact eflat_at (by simpa using h) hj
section
variable {w w' : World} {A : Option Addr} {n cap tb off : Nat} {L : List Ev}
theorem AtEv.cell {b o : Nat} {e : Ev} (h : AtEv w b o e) {r : Nat} {u : Value} (hu : e.cells[r]? = some u) : w.cell? ⟨b, o + r, none⟩ = some u := by
  match r, hu with
  | 0, hu => cases hu; exact h.c0
  | 1, hu => cases hu; exact h.c1
  | 2, hu => cases hu; exact h.c2
  | 3, hu => cases hu; exact h.c3
  | 4, hu => cases hu; exact h.c4
  | 5, hu => cases hu; exact h.c5
  | r + 6, hu => simp [Ev.cells] at hu
theorem evs_src (h : IsEvs w A n cap tb off L) : Src w 6 A n (flatE L) := by
  refine ⟨fun hA => ?_, by rw [flatE_length, h.1], fun ad had j u hj => ?_, flatE_one L⟩
  · rcases Nat.eq_zero_or_pos n with h0 | h0
    · exact h0
    · have := (h.2.2.1 h0).1
      rw [hA] at this
      cases this
  · have hjl : j < L.length * 6 := by
      have := (List.getElem?_eq_some_iff.1 hj).1
      rwa [flatE_length] at this
    have hn : 0 < n := by have := h.1; omega
    obtain ⟨e, he⟩ : ∃ e, L[j / 6]? = some e := ⟨_, List.getElem?_eq_getElem (by omega)⟩
    have hjj : j / 6 * 6 + j % 6 = j := by omega
    have h1 := eflat_at he (show j % 6 < 6 by omega)
    rw [hjj, hj] at h1
    have h2 := (h.2.2.2 _ e he).1.cell h1.symm
    rw [(h.2.2.1 hn).1] at had
    cases had
    have ha : (({ block := tb, off := off, spot := none } : Addr).add j) = ⟨tb, off + j, none⟩ := addr_add' _ _ _
    rw [ha, show off + j = off + j / 6 * 6 + j % 6 by omega]
    exact h2
theorem own_evs {base : Nat} (h : w.ownsRow base 40 6 (.slice A n cap) n (flatE L)) (hn : L.length = n) (hf : ∀ e ∈ L, e.Fit) : ∃ tb, IsEvs w A n cap tb 0 L := by
  subst hn
  rcases h.2 with ⟨hv, h0⟩ | ⟨g, cap', cur, hv, hb, hh, hc, _⟩
  · clear hv
    have hl : L = [] := List.eq_nil_of_length_eq_zero h0
    subst hl
    exact ⟨0, rfl, Nat.zero_le _, fun hp => absurd hp (by simp), fun i e he => by simp at he⟩
  · cases hv
    refine ⟨g, rfl, hc, fun _ => ⟨rfl, (h.lt g rfl).2⟩, fun i e he => ⟨?_, hf e (List.mem_of_getElem? he)⟩⟩
    have hi := (List.getElem?_eq_some_iff.1 he).1
    have k : ∀ r u, r < 6 → e.cells[r]? = some u → w.cell? ⟨g, 0 + i * 6 + r, none⟩ = some u := fun r u hr hu => by
      rw [Nat.zero_add, h.cellAt _ (by omega), eflat_at he hr, hu]
    exact ⟨k 0 _ (by decide) rfl, k 1 _ (by decide) rfl, k 2 _ (by decide) rfl, k 3 _ (by decide) rfl, k 4 _ (by decide) rfl, k 5 _ (by decide) rfl⟩
end
end Go.Proofs.YtpbpkmmhdfahnaaGreat
