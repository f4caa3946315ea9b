/-
  What two laws on claims have in common: a claim beside other things, what a place found is. No condition.
-/
import Derived.Test.YtoogdfjlodchhaaMore
import Derived.Test.YtoogdfjlodchhaaClaimCells
namespace Go.Proofs.Ytoogdfjlodchhaa
open Go.RowKit
set_option linter.unusedVariables false

theorem Hold.init {W w : World} {a b c : Thing} (h : Hold W w [a, b, c]) : Hold W w [a, b] := Hold.less (l := [a, b]) (m := [c]) h

theorem rows_later {w w' : World} {ks : List CK} {a : Option Addr} {len cap : Nat} (h : IsRows w ks a len cap) (e : Below w.heap.size w w') : IsRows w' ks a len cap := by
  obtain ⟨h1, h2, h3, h4, h5⟩ := h
  refine ⟨h1, h2, h3, h4, fun b off ha i hi => ?_⟩
  obtain ⟨cs, hf, hc⟩ := h5 b off ha i hi
  exact ⟨cs, hf, fun j u hj => (e.cell (p := ⟨b, _, none⟩) (World.block_lt_of_cell? w _ (hc j u hj))).trans (hc j u hj)⟩

theorem clphase_at {w : World} {b : Nat} {k : Cl} (x : Int) (hx : k.ph = x) (hT : IsObj w b k.list) : Calls Try.prog 24 #[pt b] w fun r w' => r = .returned (i64 x) ∧ Below w.heap.size w w' :=
  hx ▸ quiet_below (clphase_any w b k hT)
theorem clslot_at {w : World} {b : Nat} {k : Cl} (x : Int) (hx : k.slot = x) (hT : IsObj w b k.list) : Calls Try.prog 29 #[pt b] w fun r w' => r = .returned (i64 x) ∧ Below w.heap.size w w' :=
  hx ▸ quiet_below (clslot_any w b k hT)
theorem cowner_at (t s : Int) (N : Nat) (i x : Int) (w : World) (h : Lay t s N) (i0 : 0 ≤ i) (i1 : i < N) (hx : i / s = x) :
    Calls Try.prog 42 #[cf t s 0 0, i64 i] w fun r w' => r = .returned (i64 x) ∧ Below w.heap.size w w' :=
  hx ▸ cowner_in t s 0 0 N i w h i0 i1

theorem own_div {q s m slot : Int} (s1 : 1 ≤ s) (s4 : s ≤ 4) (hm : q * s = m) (h0 : m ≤ slot) (h1 : slot < m + s) : slot / s = q := by
  rcases (by omega : s = 1 ∨ s = 2 ∨ s = 3 ∨ s = 4) with rfl | rfl | rfl | rfl
  all_goals omega


theorem most_le {t s : Int} (t1 : 1 ≤ t) (t4 : t ≤ 4) (s1 : 1 ≤ s) (s4 : s ≤ 4) : ∃ Q : Nat, s * (t + 1) = (Q : Int) ∧ Q ≤ 20 := by
  have h1 := Int.mul_le_mul s4 (show t + 1 ≤ 5 by omega) (by omega) (by decide)
  have h2 := Int.mul_nonneg (show 0 ≤ s by omega) (show 0 ≤ t + 1 by omega)
  exact ⟨(s * (t + 1)).toNat, by omega, by omega⟩

/-- Numbers that rise. -/
theorem rise_append {S : List Int} {x b : Int} (h : S.Pairwise (· < ·)) (hb : ∀ y ∈ S, y < b) (hx : b ≤ x) : (S ++ [x]).Pairwise (· < ·) := by
  rw [List.pairwise_append]
  refine ⟨h, List.pairwise_singleton _ _, fun a ha c hc => ?_⟩
  rw [List.mem_singleton] at hc
  have := hb a ha
  omega
theorem rise_ne {S : List Int} (h : S.Pairwise (· < ·)) {i j : Nat} (hj : j < i) (hi : i < S.length) : S.getD i 0 ≠ S.getD j 0 := by
  have h1 := List.pairwise_iff_getElem.1 h j i (by omega) hi hj
  rw [List.getD_eq_getElem?_getD, List.getD_eq_getElem?_getD, List.getElem?_eq_getElem hi, List.getElem?_eq_getElem (by omega)]
  show S[i] ≠ S[j]
  omega

end Go.Proofs.Ytoogdfjlodchhaa
