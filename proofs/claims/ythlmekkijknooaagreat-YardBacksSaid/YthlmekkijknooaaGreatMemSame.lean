/-
  The contract of 'same' of package stackyardlaw03, for two lists of the same events; lists of acts and of events as they came in. No condition.
-/
import Derived.Test.YthlmekkijknooaaGreatMemDo
namespace Go.Proofs.YthlmekkijknooaaGreat
open Go.RowKit
set_option linter.unusedVariables false

/-- A list of events lies at A. -/
def AtE (w : World) (A : Option Addr) (L : List Ev) : Prop :=
  L ≠ [] → ∃ b o, A = some ⟨b, o, none⟩ ∧ b < w.heap.size ∧ ∀ i e, L[i]? = some e → w.cell? ⟨b, o + i * 6, none⟩ = some (i64 e.who) ∧ w.cell? ⟨b, o + i * 6 + 1, none⟩ = some (i64 e.op) ∧ w.cell? ⟨b, o + i * 6 + 2, none⟩ = some (i64 e.cell) ∧
    w.cell? ⟨b, o + i * 6 + 3, none⟩ = some (u64 e.old) ∧ w.cell? ⟨b, o + i * 6 + 4, none⟩ = some (u64 e.new) ∧ w.cell? ⟨b, o + i * 6 + 5, none⟩ = some (.bool e.ok)

theorem AtE.later {w w' : World} {A : Option Addr} {L : List Ev} (h : AtE w A L) (hb : Below w.heap.size w w') : AtE w' A L := fun hne => by
  obtain ⟨b, o, rfl, hl, hc⟩ := h hne
  refine ⟨b, o, rfl, Nat.lt_of_lt_of_le hl hb.size, fun i e he => ?_⟩
  obtain ⟨h0, h1, h2, h3, h4, h5⟩ := hc i e he
  have k : ∀ j, w'.cell? ⟨b, j, none⟩ = w.cell? ⟨b, j, none⟩ := fun j => hb.cell (p := ⟨b, j, none⟩) hl
  exact ⟨(k _).trans h0, (k _).trans h1, (k _).trans h2, (k _).trans h3, (k _).trans h4, (k _).trans h5⟩

theorem mflatE_at : ∀ (L : List Ev) (i : Nat) (e : Ev), L[i]? = some e → ∀ j u, e.cells[j]? = some u → (flatE L)[i * 6 + j]? = some u
  | [], i, e, h, _, _, _ => by simp at h
  | f :: L, 0, e, h, j, u, hj => by
    simp only [List.getElem?_cons_zero, Option.some.injEq] at h
    subst h
    have hl : j < f.cells.length := (List.getElem?_eq_some_iff.1 hj).1
    rw [flatE, Nat.zero_mul, Nat.zero_add, List.getElem?_append_left hl]
    exact hj
  | f :: L, i + 1, e, h, j, u, hj => by
    have ih := mflatE_at L i e (by simpa using h) j u hj
    have hl : f.cells.length = 6 := rfl
    rw [flatE, List.getElem?_append_right (by omega), hl, show (i + 1) * 6 + j - 6 = i * 6 + j by omega]
    exact ih

/-- An own row of events. -/
theorem AtE.row {w : World} {base : Nat} {A : Option Addr} {cap : Nat} {L : List Ev} (h : w.ownsRow base 72 6 (.slice A L.length cap) L.length (flatE L)) : AtE w A L := fun hne => by
  rcases h.2 with ⟨_, h0⟩ | ⟨g, cap', cur, hv, hg, hh, _⟩
  · exact absurd (List.eq_nil_of_length_eq_zero h0) hne
  · cases hv
    refine ⟨g, 0, rfl, (h.lt g rfl).2, fun i e he => ?_⟩
    have hi := (List.getElem?_eq_some_iff.1 he).1
    have k : ∀ j u, e.cells[j]? = some u → w.cell? ⟨g, 0 + i * 6 + j, none⟩ = some u := fun j u hj => by
      have hjl : j < e.cells.length := (List.getElem?_eq_some_iff.1 hj).1
      have hjl' : e.cells.length = 6 := rfl
      rw [show 0 + i * 6 + j = i * 6 + j by omega, h.cellAt (i * 6 + j) (by omega)]
      exact mflatE_at L i e he j u hj
    exact ⟨k 0 _ rfl, k 1 _ rfl, k 2 _ rfl, k 3 _ rfl, k 4 _ rfl, k 5 _ rfl⟩

end Go.Proofs.YthlmekkijknooaaGreat
