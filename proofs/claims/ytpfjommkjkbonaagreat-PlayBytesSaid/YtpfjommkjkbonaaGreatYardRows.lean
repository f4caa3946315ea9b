/-
  Rows of moves as they came in. No condition.
-/
import Derived.Test.YtpfjommkjkbonaaGreatYardPure
namespace Go.Proofs.YtpfjommkjkbonaaGreat
open Go.RowKit
set_option linter.unusedVariables false

/-- A move. -/
structure Mv where
  kind : Int
  who : Int
  take : Bool
  right : Bool
  value : Int
  start : Int
  time : Int
def Mv.v (x : Mv) : Value := .agg #[i64 x.kind, i64 x.who, .bool x.take, .bool x.right, u64 x.value, i64 x.start, i64 x.time]
/-- One that lies somewhere. -/
structure AtMv (w : World) (tb o : Nat) (x : Mv) : Prop where
  c0 : w.cell? ⟨tb, o, none⟩ = some (i64 x.kind)
  c1 : w.cell? ⟨tb, o + 1, none⟩ = some (i64 x.who)
  c2 : w.cell? ⟨tb, o + 2, none⟩ = some (.bool x.take)
  c3 : w.cell? ⟨tb, o + 3, none⟩ = some (.bool x.right)
  c4 : w.cell? ⟨tb, o + 4, none⟩ = some (u64 x.value)
  c5 : w.cell? ⟨tb, o + 5, none⟩ = some (i64 x.start)
  c6 : w.cell? ⟨tb, o + 6, none⟩ = some (i64 x.time)
theorem AtMv.later {w w' : World} {tb o B : Nat} {x : Mv} (h : AtMv w tb o x) (e : Below B w w') (hB : tb < B) : AtMv w' tb o x :=
  have k : ∀ j, w'.cell? ⟨tb, j, none⟩ = w.cell? ⟨tb, j, none⟩ := fun j => e.cell (p := ⟨tb, j, none⟩) hB
  ⟨(k _).trans h.c0, (k _).trans h.c1, (k _).trans h.c2, (k _).trans h.c3, (k _).trans h.c4, (k _).trans h.c5, (k _).trans h.c6⟩
def IsMvs (w : World) (a0 : Option Addr) (len cap tb off : Nat) (X : Nat → Mv) : Prop :=
  ∀ i, i < len → a0 = some ⟨tb, off, none⟩ ∧ len ≤ cap ∧ tb < w.heap.size ∧ AtMv w tb (off + i * 7) (X i) ∧ 0 ≤ (X i).value ∧ (X i).value ≤ 18446744073709551615
theorem IsMvs.later {w w' : World} {a : Option Addr} {len cap tb off B : Nat} {X : Nat → Mv} (h : IsMvs w a len cap tb off X) (e : Below B w w') (hB : ∀ i, i < len → tb < B) : IsMvs w' a len cap tb off X := fun i hi => by
  obtain ⟨h1, h2, h3, h4, h5⟩ := h i hi
  have h6 := h4.later e (hB i hi)
  exact ⟨h1, h2, World.block_lt_of_cell? w' _ h6.c0, h6, h5⟩
theorem rows_mvs {w : World} {a0 : Option Addr} {len cap : Nat} (h : IsRows w [.inl .i64, .inl .i64, .inr true, .inr true, .inl .u64, .inl .i64, .inl .i64] a0 len cap) : ∃ b off, ∃ X : Nat → Mv, IsMvs w a0 len cap b off X := by
  obtain ⟨h1, h2, h3, h4, h5⟩ := h
  rcases Nat.eq_zero_or_pos len with h0 | hl
  · exact ⟨0, 0, fun _ => ⟨0, 0, false, false, 0, 0, 0⟩, fun i hi => by omega⟩
  obtain ⟨b, off, rfl⟩ := h4 hl
  have hx : ∀ i, ∃ x : Mv, i < len → AtMv w b (off + i * 7) x ∧ 0 ≤ x.value ∧ x.value ≤ 18446744073709551615 := by
    intro i
    by_cases hi : i < len
    · obtain ⟨cs, hf, hc⟩ := h5 b off rfl i hi
      obtain ⟨c0, l0, rfl, r0, f0⟩ := fit_cons hf
      obtain ⟨c1, l1, rfl, r1, f1⟩ := fit_cons f0
      obtain ⟨c2, l2, rfl, r2, f2⟩ := fit_cons f1
      obtain ⟨c3, l3, rfl, r3, f3⟩ := fit_cons f2
      obtain ⟨c4, l4, rfl, r4, f4⟩ := fit_cons f3
      obtain ⟨c5, l5, rfl, r5, f5⟩ := fit_cons f4
      obtain ⟨c6, l6, rfl, r6, f6⟩ := fit_cons f5
      obtain ⟨x0, rfl, g0⟩ := r0
      obtain ⟨x1, rfl, g1⟩ := r1
      obtain ⟨x2, rfl⟩ := r2
      obtain ⟨x3, rfl⟩ := r3
      obtain ⟨x4, rfl, g4⟩ := r4
      obtain ⟨x5, rfl, g5⟩ := r5
      obtain ⟨x6, rfl, g6⟩ := r6
      exact ⟨⟨x0, x1, x2, x3, x4, x5, x6⟩, fun _ => ⟨⟨hc 0 _ rfl, hc 1 _ rfl, hc 2 _ rfl, hc 3 _ rfl, hc 4 _ rfl, hc 5 _ rfl, hc 6 _ rfl⟩, (bounds_u64 g4).1, (bounds_u64 g4).2⟩⟩
    · exact ⟨⟨0, 0, false, false, 0, 0, 0⟩, fun h => absurd h hi⟩
  obtain ⟨X, hX⟩ := Classical.axiomOfChoice hx
  exact ⟨b, off, X, fun i hi => ⟨rfl, h1, World.block_lt_of_cell? w _ (hX i hi).1.c0, (hX i hi).1, (hX i hi).2⟩⟩

/-- A deed that is over has its task's reply. -/
theorem Dd.over_reply (d : Dd) (m : Nat) (T : Wk) (h : d.ok = false ∧ d.v = 0 ∧ d.lo = 0 ∧ d.hi = 0) : T.reply = replyV (d.over m T).ok (d.over m T).v (d.over m T).lo (d.over m T).hi := by
  obtain ⟨h1, h2, h3, h4⟩ := h
  unfold Dd.over
  cases T with
  | pu k =>
    show k.reply = _
    unfold Pu.reply
    by_cases hp : k.ph = 1
    · rw [if_pos hp, if_pos (show (Wk.pu k).ph = 1 from hp)]
    · rw [if_neg hp, if_neg (show ¬ (Wk.pu k).ph = 1 from hp), h1, h2, h3, h4]
  | ge k =>
    show k.reply = _
    unfold Ge.reply
    by_cases hp : k.ph = 1
    · rw [if_pos hp, if_pos (show (Wk.ge k).ph = 1 from hp)]
    · rw [if_neg hp, if_neg (show ¬ (Wk.ge k).ph = 1 from hp), h1, h2, h3, h4]

end Go.Proofs.YtpfjommkjkbonaaGreat
