/-
  A row of events of which one is turned in one place, or left out. No condition.
-/
import Derived.Test.YtpbpkmmhdfahnaaGreatEvOwn
import Derived.Test.YtpbpkmmhdfahnaaGreatAKit
namespace Go.Proofs.YtpbpkmmhdfahnaaGreat
open Go.RowKit
set_option linter.unusedVariables false

section
variable {w : World} {A : Option Addr} {n cap tb off k j o : Nat} {L : List Ev} {e e' : Ev} {u : Value}
theorem ev_of_cells {b p : Nat} (h : ∀ r x, e.cells[r]? = some x → w.cell? ⟨b, p + r, none⟩ = some x) : AtEv w b p e :=
  ⟨h 0 _ rfl, h 1 _ rfl, h 2 _ rfl, h 3 _ rfl, h 4 _ rfl, h 5 _ rfl⟩
theorem IsEvs.put (h : IsEvs w A n cap tb off L) (hk : L[k]? = some e) (hj : j < 6) (hu : e'.cells = e.cells.set j u) (hf : e'.Fit) (ho : o = off + k * 6 + j) : IsEvs (w.setCell ⟨tb, o, none⟩ u) A n cap tb off (L.set k e') := by
  subst ho
  obtain ⟨h1, h2, h3, h4⟩ := h
  refine ⟨by rw [List.length_set]; exact h1, h2, fun hn => ⟨(h3 hn).1, by simpa [World.setCell] using (h3 hn).2⟩, fun i x hi => ?_⟩
  rw [List.getElem?_set] at hi
  by_cases hki : k = i
  · subst hki
    rw [if_pos rfl, if_pos (List.getElem?_eq_some_iff.1 hk).1] at hi
    cases hi
    refine ⟨ev_of_cells fun r y hr => ?_, hf⟩
    rw [hu, List.getElem?_set] at hr
    by_cases hjr : j = r
    · subst hjr
      rw [if_pos rfl] at hr
      split at hr
      · rename_i hl
        cases hr
        exact World.cell?_setCell_same _ _ _ ((h4 k e hk).1.cell (List.getElem?_eq_getElem hl))
      · cases hr
    · rw [if_neg hjr] at hr
      rw [World.cell?_setCell_other _ _ _ _ (fun e => hjr (by injection e; omega))]
      exact (h4 k e hk).1.cell hr
  · rw [if_neg hki] at hi
    refine ⟨ev_of_cells fun r y hr => ?_, (h4 i x hi).2⟩
    have hr6 : r < 6 := by
      have := (List.getElem?_eq_some_iff.1 hr).1
      exact this
    rw [World.cell?_setCell_other _ _ _ _ (fun e => by injection e; omega)]
    exact (h4 i x hi).1.cell hr
/-- The part behind an event, as what an append takes. -/
theorem evs_drop (h : IsEvs w (some ⟨tb, off, none⟩) n cap tb off L) (hk : k ≤ n) (ho : o = off + k * 6) : Src w 6 (some ⟨tb, o, none⟩) (n - k) (flatE (L.drop k)) := by
  subst ho
  have hD : IsEvs w (some ⟨tb, off + k * 6, none⟩) (n - k) cap tb (off + k * 6) (L.drop k) := by
    obtain ⟨h1, h2, h3, h4⟩ := h
    refine ⟨by rw [List.length_drop, h1], by omega, fun hn => ⟨rfl, (h3 (by omega)).2⟩, fun i x hi => ?_⟩
    rw [List.getElem?_drop] at hi
    have h5 := h4 _ x hi
    rwa [show off + (k + i) * 6 = off + k * 6 + i * 6 by omega] at h5
  exact evs_src hD
/-- The part ahead of an event, as a row of one's own. -/
theorem own_take {base g : Nat} (h : w.ownsRow base 40 6 (.slice (some ⟨g, 0, none⟩) n cap) n (flatE L)) (hn : L.length = n) (hk : k ≤ n) : w.ownsRow base 40 6 (.slice (some ⟨g, 0, none⟩) k cap) k (flatE (L.take k)) := by
  have hl : (flatE (L.take k)).length = k * 6 := by rw [flatE_length, List.length_take, hn, Nat.min_eq_left hk]
  have hfl : flatE L = flatE (L.take k) ++ flatE (L.drop k) := by rw [← flatE_append, List.take_append_drop]
  rcases h.2 with ⟨hv, _⟩ | ⟨g', cap', cur, hv, hb, hh, hc, hm, hs, ht⟩
  · cases hv
  · cases hv
    refine ⟨hl, .inr ⟨g, cap, cur, rfl, hb, hh, by omega, hm, hs, ?_⟩⟩
    have h1 : cur.toList.take (k * 6) = (cur.toList.take (n * 6)).take (k * 6) := by rw [List.take_take, Nat.min_eq_left (by omega)]
    rw [h1, ht, hfl, ← hl, List.take_left]
end
end Go.Proofs.YtpbpkmmhdfahnaaGreat
