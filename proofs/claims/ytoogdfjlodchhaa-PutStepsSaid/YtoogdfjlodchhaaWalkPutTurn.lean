/-
  What several laws on puts have in common: rows of turns, counts, cells of hazards by their number. No condition.
-/
import Derived.Test.YtoogdfjlodchhaaPutCells
namespace Go.Proofs.Ytoogdfjlodchhaa
open Go.RowKit
set_option linter.unusedVariables false

/-- What a list of turns holds. -/
def IsTu (w : World) (a : Option Addr) (len cap : Nat) (tb off : Nat) (X : Nat → Int × Int × Bool × Int) : Prop := ∀ i, i < len → a = some ⟨tb, off, none⟩ ∧ len ≤ cap ∧ tb < w.heap.size ∧ w.cell? ⟨tb, off + i * 4, none⟩ = some (i64 (X i).1) ∧ w.cell? ⟨tb, off + i * 4 + 1, none⟩ = some (u64 (X i).2.1) ∧ w.cell? ⟨tb, off + i * 4 + 2, none⟩ = some (.bool (X i).2.2.1) ∧ w.cell? ⟨tb, off + i * 4 + 3, none⟩ = some (i64 (X i).2.2.2) ∧ 0 ≤ (X i).2.1 ∧ (X i).2.1 ≤ 18446744073709551615
theorem rows_turn4 {w : World} {a0 : Option Addr} {len cap : Nat} (h : IsRows w [.inl .i64, .inl .u64, .inr true, .inl .i64] a0 len cap) : ∃ b off, ∃ X : Nat → Int × Int × Bool × Int, IsTu w a0 len cap b off X := by
  obtain ⟨h1, h2, h3, h4, h5⟩ := h
  rcases Nat.eq_zero_or_pos len with h0 | hl
  · exact ⟨0, 0, fun _ => (0, 0, false, 0), fun i hi => by omega⟩
  obtain ⟨b, off, rfl⟩ := h4 hl
  have hx : ∀ i, ∃ x : Int × Int × Bool × Int, i < len → w.cell? ⟨b, off + i * 4, none⟩ = some (i64 x.1) ∧ w.cell? ⟨b, off + i * 4 + 1, none⟩ = some (u64 x.2.1) ∧ w.cell? ⟨b, off + i * 4 + 2, none⟩ = some (.bool x.2.2.1) ∧ w.cell? ⟨b, off + i * 4 + 3, none⟩ = some (i64 x.2.2.2) ∧ 0 ≤ x.2.1 ∧ x.2.1 ≤ 18446744073709551615 := by
    intro i
    by_cases hi : i < len
    · obtain ⟨cs, hf, hc⟩ := h5 b off rfl i hi
      obtain ⟨c0, l0, rfl, r0, f0⟩ := fit_cons hf
      obtain ⟨c1, l1, rfl, r1, f1⟩ := fit_cons f0
      obtain ⟨c2, l2, rfl, r2, f2⟩ := fit_cons f1
      obtain ⟨c3, l3, rfl, r3, f3⟩ := fit_cons f2
      obtain ⟨x0, rfl, g0⟩ := r0
      obtain ⟨x1, rfl, g1⟩ := r1
      obtain ⟨x2, rfl⟩ := r2
      obtain ⟨x3, rfl, g3⟩ := r3
      exact ⟨⟨x0, x1, x2, x3⟩, fun _ => ⟨hc 0 _ rfl, hc 1 _ rfl, hc 2 _ rfl, hc 3 _ rfl, (bounds_u64 g1).1, (bounds_u64 g1).2⟩⟩
    · exact ⟨⟨0, 0, false, 0⟩, fun h => absurd h hi⟩
  obtain ⟨X, hX⟩ := Classical.axiomOfChoice hx
  exact ⟨b, off, X, fun i hi => ⟨rfl, h1, World.block_lt_of_cell? w _ (hX i hi).1, hX i hi⟩⟩

/-- What a list of numbers holds. -/
def IsUs (w : World) (a : Option Addr) (len cap : Nat) (tb off : Nat) (X : Nat → Int) : Prop := ∀ i, i < len → a = some ⟨tb, off, none⟩ ∧ len ≤ cap ∧ tb < w.heap.size ∧ w.cell? ⟨tb, off + i, none⟩ = some (u64 (X i)) ∧ 0 ≤ X i ∧ X i ≤ 18446744073709551615
theorem rows_us {w : World} {a0 : Option Addr} {len cap : Nat} (h : IsRows w [.inl .u64] a0 len cap) : ∃ b off, ∃ X : Nat → Int, IsUs w a0 len cap b off X := by
  obtain ⟨h1, h2, h3, h4, h5⟩ := h
  rcases Nat.eq_zero_or_pos len with h0 | hl
  · exact ⟨0, 0, fun _ => 0, fun i hi => by omega⟩
  obtain ⟨b, off, rfl⟩ := h4 hl
  have hx : ∀ i, ∃ x : Int, i < len → w.cell? ⟨b, off + i, none⟩ = some (u64 x) ∧ 0 ≤ x ∧ x ≤ 18446744073709551615 := by
    intro i
    by_cases hi : i < len
    · obtain ⟨cs, hf, hc⟩ := h5 b off rfl i hi
      obtain ⟨c0, l0, rfl, r0, f0⟩ := fit_cons hf
      obtain ⟨x0, rfl, g0⟩ := r0
      have := hc 0 _ rfl
      simp only [List.length_cons, List.length_nil, Nat.zero_add, Nat.mul_one, Nat.add_zero] at this
      exact ⟨x0, fun _ => ⟨this, (bounds_u64 g0).1, (bounds_u64 g0).2⟩⟩
    · exact ⟨0, fun h => absurd h hi⟩
  obtain ⟨X, hX⟩ := Classical.axiomOfChoice hx
  exact ⟨b, off, X, fun i hi => ⟨rfl, h1, World.block_lt_of_cell? w ⟨b, off + i, none⟩ (hX i hi).1, hX i hi⟩⟩
/-- A struct's cell is turned. -/
theorem Hold.setBox {W w : World} {l : List Thing} {b : Nat} {xs : List Value} (h : Hold W w l) (i : Nat) (hi : l[i]? = some (tObj W.heap.size b xs)) (j : Nat) (u : Value) : Hold W (w.setCell ⟨b, j, none⟩ u) (l.set i (tObj W.heap.size b (xs.set j u))) :=
  h.turn i hi ((Keep.refl _ _).own j u |>.mono (fun q hq => hq)) (tObj_ok _ _ _) ⟨(h.has i _ hi).1.set j u, (h.has i _ hi).2⟩ (fun q hq => .inl hq)
theorem cowner4_at (t s so d : Int) (N : Nat) (i x : Int) (w : World) (h : Lay t s N) (i0 : 0 ≤ i) (i1 : i < N) (hx : i / s = x) :
    Calls Try.prog 42 #[cf t s so d, i64 i] w fun r w' => r = .returned (i64 x) ∧ Below w.heap.size w w' :=
  hx ▸ cowner_in t s so d N i w h i0 i1
theorem before_at (a b c d : Int) (w : World) {x : Bool} (h : decide (b < c) = x) :
    Calls Try.prog 43 #[st a b, st c d] w fun e w' => e = .returned (.bool x) ∧ Below w.heap.size w w' := h ▸ before_any a b c d w
theorem count_at (base : Nat) (w : World) (p c : Nat) (v : Value) (C : List Int) (L : List Ev) (l : Nat) (hM : IsMem base w p c v C L) (hl : L.length = l) :
    Calls Try.prog 35 #[pt p] w fun r w' => r = .returned (i64 l) ∧ w = w' := hl ▸ count_any base w p c v C L hM
theorem Hold.mem0 {W w : World} {p c : Nat} {v : Value} {C : List Int} {L : List Ev} {R : List Thing} (h : Hold W w (tMem W.heap.size p c v C L :: R)) : IsMem W.heap.size w p c v C L := h.has 0 _ rfl
theorem unpack_at (x s e g lo hi : Int) (w : World) (h : x % 4 = s ∧ x / 4 % 2 = e ∧ x / 8 % 8192 = g ∧ x / 65536 % 16777216 = lo ∧ x / 1099511627776 = hi ∧ 0 ≤ x ∧ x ≤ 18446744073709551615) :
    Calls Try.prog 45 #[u64 x] w fun r w' => r = .returned (wd s e g lo hi) ∧ Below w.heap.size w w' := by
  obtain ⟨rfl, rfl, rfl, rfl, rfl, h0, h1⟩ := h
  exact unpack_any x w h0 h1
theorem chz_at (t s so d n : Int) (hz j : Nat) (w : World) (h : Lay t s n) (hhz : (hz : Int) = 2 * n) (hj : (j : Int) ≤ t) :
    Calls Try.prog 48 #[cf t s so d, i64 j] w fun r w' => r = .returned (i64 (hz + j : Nat)) ∧ Below w.heap.size w w' := by
  have := chazard_any t s so d n j w h (by omega) hj
  rw [show (2 * n + (j : Int)) = ((hz + j : Nat) : Int) by omega] at this
  exact this
theorem PuHold.drew {W w : World} {p c b b1 b2 : Nat} {v : Value} {C : List Int} {L : List Ev} {k : Pu} {R : List Thing} (h : PuHold W w p c v C L b b1 b2 k R) : PuHold W w.drew p c v C L b b1 b2 k R := Hold.drew h

end Go.Proofs.Ytoogdfjlodchhaa
