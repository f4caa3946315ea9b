/-
  More that the laws on gets share: cells above the values, orders as rows, rows of bools, a part of a row. No condition.
-/
import Derived.Test.YticphioeipbnmaaGetCells
import Derived.Test.YticphioeipbnmaaPickLessPure
import Derived.Test.YticphioeipbnmaaWalkMemSums
namespace Go.Proofs.Yticphioeipbnmaa
open Go.RowKit
set_option linter.unusedVariables false

theorem thC_hi {X : Nat → Th} {N M : Nat} : ∀ (e j : Nat), e ≤ N → 2 * N ≤ j → (thC X N (List.replicate M 0) e).getD j 0 = 0
  | 0, j, _, _ => by show (List.replicate M 0).getD j 0 = 0; rw [gzeros]
  | e + 1, j, he, hj => by
    rw [thC, getD_set_ne' _ (by omega), getD_set_ne' _ (by omega)]
    exact thC_hi e j (by omega) hj
theorem row_at0 (W : World) (a : Option Addr) (cap N : Nat) (ws : List Int) (hl : ws.length = N) (hW : IsWs W a ws) (hn : N ≤ 100000) :
    Calls Try.prog 21 #[.slice a N cap] W fun r w' => ∃ b cp S, r = .returned (.slice b S.length cp) ∧ IsOrder ws S ∧ w'.ownsRow W.heap.size 3 1 (.slice b S.length cp) S.length (S.map (fun i : Nat => i64 (i : Int))) ∧ Below W.heap.size W w' := by
  subst hl
  refine (row_own W a cap ws hW hn).mono ?_
  rintro r w' ⟨v, S, h1, h2, ⟨b, cp, h3, h4, h5⟩, h6, h7⟩
  subst h3
  exact ⟨b, cp, S, h1, h2, h7, h6⟩
theorem ints_at {w : World} {base : Nat} {b : Option Addr} {cp : Nat} {S : List Nat} (h : w.ownsRow base 3 1 (.slice b S.length cp) S.length (S.map (fun i : Nat => i64 (i : Int)))) (h0 : 0 < S.length) : ∃ g, b = some ⟨g, 0, none⟩ ∧ ∀ q, q < S.length → w.cell? ⟨g, q, none⟩ = some (i64 (S.getD q 0 : Nat)) := by
  obtain ⟨g, cap, h1, _⟩ := row_shape h h0
  cases h1
  refine ⟨g, rfl, fun q hq => ?_⟩
  rw [h.cellAt q (by omega), List.getElem?_map, List.getD_eq_getElem?_getD, List.getElem?_eq_getElem hq]
  rfl
theorem count0_at (base : Nat) (w : World) (p c : Nat) (v : Value) (C : List Int) (L : List Ev) (l : Nat) (hM : IsMem base w p c v C L) (hl : L.length = l) :
    Calls Try.prog 26 #[pt p] w fun r w' => r = .returned (i64 l) ∧ Below w.heap.size w w' := hl ▸ quiet_below (count_any base w p c v C L hM)

/-- Bools as they came in. -/
def IsBools (w : World) (a0 : Option Addr) (len cap b off : Nat) (X : Nat → Bool) : Prop :=
  ∀ i, i < len → a0 = some ⟨b, off, none⟩ ∧ len ≤ cap ∧ b < w.heap.size ∧ w.cell? ⟨b, off + i, none⟩ = some (.bool (X i))
theorem rows_bools {w : World} {a0 : Option Addr} {len cap : Nat} (h : IsRows w [.inr true] a0 len cap) : ∃ b off, ∃ X : Nat → Bool, IsBools w a0 len cap b off X := by
  obtain ⟨h1, h2, h3, h4, h5⟩ := h
  rcases Nat.eq_zero_or_pos len with h0 | hl
  · exact ⟨0, 0, fun _ => false, fun i hi => by omega⟩
  obtain ⟨b, off, rfl⟩ := h4 hl
  have hx : ∀ i, ∃ x : Bool, i < len → w.cell? ⟨b, off + i, none⟩ = some (.bool x) := by
    intro i
    by_cases hi : i < len
    · obtain ⟨cs, hf, hc⟩ := h5 b off rfl i hi
      obtain ⟨c0, l0, rfl, r0, f0⟩ := fit_cons hf
      obtain ⟨x0, rfl⟩ := r0
      have := hc 0 _ rfl
      simp only [List.length_cons, List.length_nil, Nat.zero_add, Nat.mul_one, Nat.add_zero] at this
      exact ⟨x0, fun _ => this⟩
    · exact ⟨false, fun h => absurd h hi⟩
  obtain ⟨X, hX⟩ := Classical.axiomOfChoice hx
  exact ⟨b, off, X, fun i hi => ⟨rfl, h1, World.block_lt_of_cell? w _ (hX i hi), hX i hi⟩⟩
theorem IsBools.later {w w' : World} {a : Option Addr} {len cap tb off B : Nat} {X : Nat → Bool} (h : IsBools w a len cap tb off X) (e : Below B w w') (hB : ∀ i, i < len → tb < B) : IsBools w' a len cap tb off X := fun i hi => by
  obtain ⟨h1, h2, h3, h4⟩ := h i hi
  have h5 := (e.cell (p := ⟨tb, off + i, none⟩) (hB i hi)).trans h4
  exact ⟨h1, h2, World.block_lt_of_cell? w' _ h5, h5⟩

/-- A part of a row of numbers: rb is where the row lies, A where the part lies. -/
def SubAt (rb : Option Addr) (S0 : List Nat) (A : Option Addr) (S : List Nat) : Prop :=
  0 < S.length → ∃ g off, rb = some ⟨g, 0, none⟩ ∧ A = some ⟨g, off, none⟩ ∧ off + S.length ≤ S0.length ∧ ∀ q, q < S.length → S.getD q 0 = S0.getD (off + q) 0
theorem SubAt.start {w : World} {base cp : Nat} {rb : Option Addr} {S : List Nat} (h : w.ownsRow base 3 1 (.slice rb S.length cp) S.length (S.map (fun i : Nat => i64 (i : Int)))) : SubAt rb S rb S := fun h0 => by
  obtain ⟨g, h1, h2⟩ := ints_at h h0
  exact ⟨g, 0, h1, h1, by omega, fun q hq => by rw [Nat.zero_add]⟩
theorem SubAt.cells {w : World} {base cp : Nat} {rb A : Option Addr} {S0 S : List Nat} (hs : SubAt rb S0 A S) (h : w.ownsRow base 3 1 (.slice rb S0.length cp) S0.length (S0.map (fun i : Nat => i64 (i : Int)))) (h0 : 0 < S.length) :
    ∃ g off, A = some ⟨g, off, none⟩ ∧ SubAt (some ⟨g, 0, none⟩) S0 (some ⟨g, off, none⟩) S ∧ w.cell? ⟨g, off, none⟩ = some (i64 (S.getD 0 0 : Nat)) ∧ ∀ q, q < S.length → w.cell? ⟨g, off + q, none⟩ = some (i64 (S.getD q 0 : Nat)) := by
  obtain ⟨g, off, h1, h2, h3, h4⟩ := hs h0
  obtain ⟨g', h5, h6⟩ := ints_at h (by omega)
  rw [h1] at h5
  cases h5
  have h7 : ∀ q, q < S.length → w.cell? ⟨g, off + q, none⟩ = some (i64 (S.getD q 0 : Nat)) := fun q hq => by rw [h4 q hq]; exact h6 (off + q) (by omega)
  exact ⟨g, off, h2, fun _ => ⟨g, off, rfl, rfl, h3, h4⟩, by have := h7 0 h0; rwa [Nat.add_zero] at this, h7⟩
theorem SubAt.tail {g off : Nat} {rb A : Option Addr} {S0 T : List Nat} {j : Nat} (hs : SubAt rb S0 (some ⟨g, off, none⟩) (j :: T)) (hA : 0 < T.length → A = some ⟨g, off + 1, none⟩) : SubAt rb S0 A T := fun h0 => by
  obtain ⟨g', off', h1, h2, h3, h4⟩ := hs (by simp)
  cases h2
  refine ⟨g, off + 1, h1, hA h0, by rw [List.length_cons] at h3; omega, fun q hq => ?_⟩
  have := h4 (q + 1) (by rw [List.length_cons]; omega)
  rw [show off + 1 + q = off + (q + 1) by omega, ← this]
  rfl
theorem SubAt.init {g off : Nat} {rb : Option Addr} {S0 T : List Nat} {j : Nat} (hs : SubAt rb S0 (some ⟨g, off, none⟩) (T ++ [j])) : SubAt rb S0 (some ⟨g, off, none⟩) T := fun h0 => by
  obtain ⟨g', off', h1, h2, h3, h4⟩ := hs (by simp)
  cases h2
  rw [List.length_append] at h3
  refine ⟨g, off, h1, rfl, by omega, fun q hq => ?_⟩
  rw [← h4 q (by rw [List.length_append]; omega), List.getD_eq_getElem?_getD, List.getD_eq_getElem?_getD, List.getElem?_append_left hq]

/-- A get is begun while the rest stays. -/
theorem GX.vals {C0 : List Int} {N hz j q : Nat} (hq : q ≠ hz) (hj : q ≠ j) : ((tkC C0 hz j 4).set hz 0).getD q 0 = C0.getD q 0 := by
  rw [getD_set_ne' _ (fun e => hq e.symm)]
  show ((C0.set hz (j + 1)).set j (tkW (C0.getD j 0))).getD q 0 = _
  rw [getD_set_ne' _ (fun e => hj e.symm), getD_set_ne' _ (fun e => hq e.symm)]

theorem ints_cap {w : World} {base cp : Nat} {b : Option Addr} {S : List Nat} (h : w.ownsRow base 3 1 (.slice b S.length cp) S.length (S.map (fun i : Nat => i64 (i : Int)))) : S.length ≤ cp := by
  rcases Nat.eq_zero_or_pos S.length with h0 | h0
  · omega
  · obtain ⟨g, cap, hv, hcp, hg⟩ := row_shape h h0
    cases hv
    exact hcp
theorem Hold.drop1 {W w : World} {a b : Thing} {R : List Thing} (h : Hold W w (a :: b :: R)) : Hold W w (a :: R) :=
  h.sel (fun i => if i = 0 then 0 else i + 1) (fun i A hA => by
    rcases i with _ | i
    · exact hA
    · exact hA) (fun i j hi hj e => by
    split at e <;> split at e <;> omega)
theorem GeH.rest {W w : World} {p c b : Nat} {C : List Int} {L : List Ev} {k : Ge} {R : List Thing} (h : GeH W w p c C L b k R) : ∃ v, Hold W w (tMem W.heap.size p c v C L :: R) := by
  obtain ⟨v, bs, gs, bt, h⟩ := h
  exact ⟨v, h.drop1⟩

theorem tkW_fit {x : Int} (x0 : 0 ≤ x) (x1 : x ≤ 18446744073709551615) : tkW x % 4 = 2 ∧ 0 ≤ tkW x ∧ tkW x ≤ 18446744073709551615 := by
  unfold tkW
  omega

/-- A cell is stored from outside. -/
theorem GeH.store {W w : World} {p c b : Nat} {C : List Int} {L : List Ev} {k : Ge} {R : List Thing} (h : GeH W w p c C L b k R) (who : Int) (i : Nat) (x y : Int) (hx : C[i]? = some x) (hL : L.length < 1000000000) (y0 : 0 ≤ y) (y1 : y ≤ 18446744073709551615) :
    Calls Try.prog 14 #[pt p, i64 who, i64 i, u64 y] w fun r w' => r = .returned (.tuple #[]) ∧ GeH W w' p c (C.set i y) (L ++ [⟨who, 1, i, x, y, true⟩]) b k R := by
  obtain ⟨v, bs, gs, bt, h⟩ := h
  refine (store_in W.heap.size w p c v C L who i x y (h.has 0 _ rfl) hx h.size hL y0 y1).mono ?_
  rintro r w' ⟨h1, v', hT⟩
  exact ⟨h1, v', bs, gs, bt, h.mem 0 rfl hT⟩

end Go.Proofs.Yticphioeipbnmaa
