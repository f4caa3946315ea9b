/-
  What the laws on calls one behind the other have in common: numbers and deeds as they came in, deeds as an own row. No condition.
-/
import Derived.Test.YtgoncakjkippkabLinHead
namespace Go.Proofs.Ytgoncakjkippkab
open Go.RowKit
set_option linter.unusedVariables false

theorem rows_isU {w : World} {a0 : Option Addr} {len cap : Nat} (h : IsRows w [.inl .u64] a0 len cap) : ∃ R : List Int, R.length = len ∧ len ≤ cap ∧ IsU w a0 R ∧ ∀ x ∈ R, 0 ≤ x ∧ x ≤ 18446744073709551615 := by
  obtain ⟨h1, h2, h3, h4, h5⟩ := h
  rcases Nat.eq_zero_or_pos len with h0 | hl
  · exact ⟨[], by rw [h0]; rfl, h1, IsU.nil _ _, fun x hx => by cases hx⟩
  obtain ⟨b, off, rfl⟩ := h4 hl
  have hx : ∀ i, ∃ x : Int, i < len → w.cell? ⟨b, off + i, none⟩ = some (u64 x) ∧ 0 ≤ x ∧ x ≤ 18446744073709551615 := by
    intro i
    by_cases hi : i < len
    · obtain ⟨cs, hf, hc⟩ := h5 b off rfl i hi
      obtain ⟨c0, l0, rfl, r0, f0⟩ := fit_cons hf
      obtain ⟨x0, rfl, g0⟩ := r0
      have := hc 0 _ rfl
      simp only [List.length_cons, List.length_nil, Nat.zero_add, Nat.mul_one, Nat.add_zero] at this
      exact ⟨x0, fun _ => ⟨this, (bounds_u64 g0).1, (bounds_u64 g0).2⟩⟩
    · exact ⟨0, fun h => absurd h hi⟩
  obtain ⟨X, hX⟩ := Classical.axiomOfChoice hx
  refine ⟨(List.range len).map X, by simp, h1, fun _ => ⟨b, off, rfl, World.block_lt_of_cell? w _ (hX 0 hl).1, fun i hi => ?_⟩, fun x hxm => ?_⟩
  · rw [List.length_map, List.length_range] at hi
    rw [List.getD_eq_getElem?_getD, List.getElem?_map, List.getElem?_range hi]
    exact (hX i hi).1
  · obtain ⟨i, hi, rfl⟩ := List.mem_map.1 hxm
    exact (hX i (List.mem_range.1 hi)).2
theorem dds_ownl {w : World} {base n cap : Nat} {A : Option Addr} {L : List Dd} (h : w.ownsRow base 38 11 (.slice A n cap) n (flatD L)) (hn : L.length = n) (hF : ∀ d ∈ L, d.Fit) : ∃ tb, IsDds w A n cap tb 0 L := by
  subst hn
  have hc := own_cap h
  rcases h.2 with ⟨hv, h0⟩ | ⟨g, cap', cur, hv, _, hh, _⟩
  · have hl : L = [] := List.eq_nil_of_length_eq_zero h0
    subst hl
    exact ⟨0, rfl, hc, fun hp => absurd hp (Nat.lt_irrefl _), fun i d hd => by cases hd⟩
  · cases hv
    refine ⟨g, rfl, hc, fun _ => ⟨rfl, (Array.getElem?_eq_some_iff.1 hh).1⟩, fun i d hd => ⟨?_, hF d (List.mem_of_getElem? hd)⟩⟩
    rw [Nat.zero_add]
    exact AtDd.row h hd
theorem src_dl (w : World) (d : Dd) : Src (w.alloc (d.obj 38)) 11 (some ⟨w.heap.size, 0, none⟩) 1 d.list := by
  have h := AtBd.made w d 38
  refine ⟨(fun h => by cases h), rfl, fun ad had j u hj => ?_, fun u hu => d.one u hu⟩
  cases had
  have e : (({ block := w.heap.size, off := 0, spot := none } : Addr).add j) = ⟨w.heap.size, j, none⟩ := by rw [addr_add, Nat.zero_add]
  rw [e]
  match j, hj with
  | 0, hj => cases hj; exact h.c0
  | 1, hj => cases hj; exact h.c1
  | 2, hj => cases hj; exact h.c2
  | 3, hj => cases hj; exact h.c3
  | 4, hj => cases hj; exact h.c4
  | 5, hj => cases hj; exact h.c5
  | 6, hj => cases hj; exact h.c6
  | 7, hj => cases hj; exact h.c7
  | 8, hj => cases hj; exact h.c8
  | 9, hj => cases hj; exact h.c9
  | 10, hj => cases hj; exact h.c10
/-- A list of deeds that a call makes. -/
def OwnD (w W : World) (v : Value) (n : Nat) (L : List Dd) : Prop := L.length = n ∧ Below w.heap.size w W ∧ W.ownsRow w.heap.size 38 11 v n (flatD L)
section
variable {w W W' : World} {v v' : Value} {n : Nat} {L : List Dd} {d : Dd}
theorem OwnD.later (h : OwnD w W v n L) (e : Below W.heap.size W W') : OwnD w W' v n L :=
  ⟨h.1, below_step h.2.1 e, (Keep.of_below (T := fun _ => False) e).row h.2.2 (fun _ _ h => h)⟩
theorem OwnD.set (h : OwnD w W v n L) {B : Nat} (hB : ∀ k, v.ownBlock = some k → k ≠ B) (hw : w.heap.size ≤ B) (j : Nat) (u : Value) : OwnD w (W.setCell ⟨B, j, none⟩ u) v n L :=
  ⟨h.1, below_set h.2.1 hw u, ((Keep.refl (fun k => k = B) W).setCell ⟨B, j, none⟩ rfl u).row h.2.2 hB⟩
theorem OwnD.nil (h : Below w.heap.size w W) : OwnD w (W.alloc (.cells #[] 38)) (.slice (some ⟨W.heap.size, 0, none⟩) 0 0) 0 [] :=
  ⟨rfl, below_new h _, World.ownsRow_made (base := w.heap.size) (e := 38) (size := 11) W #[] 0 h.size (by unfold maxLen; omega) (by simp)⟩
theorem OwnD.grew (h : OwnD w W v n L) (hG : Grew W W' w.heap.size 38 11 v v' (n + 1) (flatD L ++ d.list)) : OwnD w W' v' (n + 1) (L ++ [d]) := by
  refine ⟨by rw [List.length_append, List.length_singleton, h.1], below_keep h.2.1 (Keep.of_grown (T := fun k => w.heap.size ≤ k) hG.grown (fun k hk => (h.2.2.lt k hk).1)) h.2.1.size (fun i hi => hi), ?_⟩
  rw [flatD_append]
  have := hG.own
  simpa [flatD] using this
theorem OwnD.shape (h : OwnD w W v n L) : ∃ A c, v = .slice A n c := own_shape h.2.2
theorem OwnD.dds {A : Option Addr} {c : Nat} (h : OwnD w W (.slice A n c) n L) (hF : ∀ d ∈ L, d.Fit) : ∃ tb, IsDds W A n c tb 0 L := dds_ownl h.2.2 h.1 hF
end

end Go.Proofs.Ytgoncakjkippkab
