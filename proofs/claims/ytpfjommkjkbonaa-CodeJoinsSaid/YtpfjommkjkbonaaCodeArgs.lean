/-
  Rows of the laws' moves as arguments, and the moves that are made of them. No condition.
-/
import Derived.Test.YtpfjommkjkbonaaCodeMake
import Derived.Test.YtpfjommkjkbonaaFlat
import Derived.Test.YtpfjommkjkbonaaCodeRow
namespace Go.Proofs.Ytpfjommkjkbonaa
open Go.RowKit
set_option linter.unusedVariables false

/-- A move of the laws that lies somewhere. -/
structure AtLM (w : World) (b o : Nat) (v : LM) : Prop where
  c0 : w.cell? ⟨b, o, none⟩ = some (i64 v.kind)
  c1 : w.cell? ⟨b, o + 1, none⟩ = some (i64 v.who)
  c2 : w.cell? ⟨b, o + 2, none⟩ = some (i64 v.n)
  c3 : w.cell? ⟨b, o + 3, none⟩ = some (i64 v.start)
  c4 : w.cell? ⟨b, o + 4, none⟩ = some (.bool v.take)
  c5 : w.cell? ⟨b, o + 5, none⟩ = some (.bool v.right)
  c6 : w.cell? ⟨b, o + 6, none⟩ = some (u64 v.value)
  c7 : w.cell? ⟨b, o + 7, none⟩ = some (i64 v.odd)
theorem AtLM.later {w w' : World} {b o : Nat} {v : LM} (h : AtLM w b o v) (e : Below w.heap.size w w') : AtLM w' b o v := by
  have hb := World.block_lt_of_cell? w _ h.c0
  exact ⟨(e.cell (p := ⟨b, o, none⟩) hb).trans h.c0, (e.cell (p := ⟨b, o + 1, none⟩) hb).trans h.c1, (e.cell (p := ⟨b, o + 2, none⟩) hb).trans h.c2, (e.cell (p := ⟨b, o + 3, none⟩) hb).trans h.c3, (e.cell (p := ⟨b, o + 4, none⟩) hb).trans h.c4, (e.cell (p := ⟨b, o + 5, none⟩) hb).trans h.c5, (e.cell (p := ⟨b, o + 6, none⟩) hb).trans h.c6, (e.cell (p := ⟨b, o + 7, none⟩) hb).trans h.c7⟩
/-- Values are numbers of 64 bits. -/
def LM.Fit (v : LM) : Prop := 0 ≤ v.value ∧ v.value ≤ 18446744073709551615
theorem LM.make_fit {v : LM} (h : v.Fit) : v.make.Fit := by
  have hb : v.base.Fit := by
    unfold LM.base CM.Fit
    split
    · split
      · exact ⟨Int.le_refl _, by show (0 : Int) ≤ 18446744073709551615; decide⟩
      · exact h
    · split
      · exact ⟨Int.le_refl _, by show (0 : Int) ≤ 18446744073709551615; decide⟩
      · exact ⟨Int.le_refl _, by show (0 : Int) ≤ 18446744073709551615; decide⟩
  unfold LM.make LM.turn
  generalize v.base = b at hb
  repeat' split
  all_goals first | exact hb | exact h
/-- A row of them. -/
structure RowL (w : World) (A : Option Addr) (cap : Nat) (V : List LM) : Prop where
  cap : V.length ≤ cap
  at' : ∀ (i : Nat) (v : LM), V[i]? = some v → ∃ b off, A = some ⟨b, off, none⟩ ∧ AtLM w b (off + i * 8) v
  fit : ∀ v ∈ V, v.Fit
theorem RowL.later {w w' : World} {A : Option Addr} {cap : Nat} {V : List LM} (h : RowL w A cap V) (e : Below w.heap.size w w') : RowL w' A cap V :=
  ⟨h.cap, fun i v hi => by obtain ⟨b, off, h1, h2⟩ := h.at' i v hi; exact ⟨b, off, h1, h2.later e⟩, h.fit⟩
theorem rows_lms {w : World} {A : Option Addr} {len cap : Nat} (h : IsRows w [.inl .i64, .inl .i64, .inl .i64, .inl .i64, .inr true, .inr true, .inl .u64, .inl .i64] A len cap) : ∃ V : List LM, V.length = len ∧ RowL w A cap V := by
  obtain ⟨h1, h2, h3, h4, h5⟩ := h
  rcases Nat.eq_zero_or_pos len with h0 | hl
  · subst h0
    exact ⟨[], rfl, Nat.zero_le _, fun i v hi => by simp at hi, fun v hv => by cases hv⟩
  obtain ⟨b, off, rfl⟩ := h4 hl
  have hx : ∀ i, ∃ x : LM, i < len → AtLM w b (off + i * 8) x ∧ x.Fit := by
    intro i
    by_cases hi : i < len
    · obtain ⟨cs, hf, hc⟩ := h5 b off rfl i hi
      obtain ⟨c0, l0, rfl, r0, f0⟩ := fit_cons hf
      obtain ⟨c1, l1, rfl, r1, f1⟩ := fit_cons f0
      obtain ⟨c2, l2, rfl, r2, f2⟩ := fit_cons f1
      obtain ⟨c3, l3, rfl, r3, f3⟩ := fit_cons f2
      obtain ⟨c4, l4, rfl, r4, f4⟩ := fit_cons f3
      obtain ⟨c5, l5, rfl, r5, f5⟩ := fit_cons f4
      obtain ⟨c6, l6, rfl, r6, f6⟩ := fit_cons f5
      obtain ⟨c7, l7, rfl, r7, f7⟩ := fit_cons f6
      obtain ⟨x0, rfl, g0⟩ := r0
      obtain ⟨x1, rfl, g1⟩ := r1
      obtain ⟨x2, rfl, g2⟩ := r2
      obtain ⟨x3, rfl, g3⟩ := r3
      obtain ⟨x4, rfl⟩ := r4
      obtain ⟨x5, rfl⟩ := r5
      obtain ⟨x6, rfl, g6⟩ := r6
      obtain ⟨x7, rfl, g7⟩ := r7
      exact ⟨⟨x0, x1, x2, x3, x4, x5, x6, x7⟩, fun _ => ⟨⟨hc 0 _ rfl, hc 1 _ rfl, hc 2 _ rfl, hc 3 _ rfl, hc 4 _ rfl, hc 5 _ rfl, hc 6 _ rfl, hc 7 _ rfl⟩, (bounds_u64 g6).1, (bounds_u64 g6).2⟩⟩
    · exact ⟨⟨0, 0, 0, 0, false, false, 0, 0⟩, fun h => absurd h hi⟩
  obtain ⟨X, hX⟩ := Classical.axiomOfChoice hx
  refine ⟨(List.range len).map X, by simp, by simpa using h1, fun i v hi => ?_, fun v hv => ?_⟩
  · have hlt : i < len := by
      have := (List.getElem?_eq_some_iff.1 hi).1
      simpa using this
    rw [List.getElem?_map, List.getElem?_range hlt] at hi
    cases hi
    exact ⟨b, off, rfl, (hX i hlt).1⟩
  · obtain ⟨i, hi, rfl⟩ := List.mem_map.1 hv
    exact (hX i (List.mem_range.1 hi)).2
/-- The moves that are made. -/
def mkL (V : List LM) : List CM := V.map LM.make
theorem mkL_take {V : List LM} {i : Nat} {v : LM} (h : V[i]? = some v) : mkL (V.take (i + 1)) = mkL (V.take i) ++ [v.make] := by
  unfold mkL
  rw [List.take_add_one, h, List.map_append]
  rfl
theorem mkL_len (V : List LM) : (mkL V).length = V.length := List.length_map _
theorem mkL_fit {V : List LM} (h : ∀ v ∈ V, v.Fit) : ∀ m ∈ mkL V, m.Fit := fun m hm => by
  obtain ⟨v, hv, rfl⟩ := List.mem_map.1 hm
  exact LM.make_fit (h v hv)
/-- A script in its box, and its moves. -/
abbrev scTh (base sb : Nat) (t s so d : Int) (A : Option Addr) (cp : Nat) (ms : List CM) : List Thing :=
  [tObj base sb [i64 t, i64 s, i64 so, i64 d, .slice A ms.length cp], tRow base 40 7 (.slice A ms.length cp) ms.length (flatM ms)]
theorem Hold.sc (W w : World) (sb : Nat) (t s so d : Int) (A : Option Addr) (cp : Nat) (ms : List CM) (r : List Thing) (h : Hold W w (scTh W.heap.size sb t s so d A cp ms ++ r)) : IsObj w sb [i64 t, i64 s, i64 so, i64 d, .slice A ms.length cp] :=
  (h.has 0 _ rfl).1
/-- A move that lies in a block of its own. -/
structure AtM0 (w : World) (b : Nat) (m : CM) : Prop where
  c0 : w.cell? ⟨b, 0, none⟩ = some (i64 m.k)
  c1 : w.cell? ⟨b, 1, none⟩ = some (i64 m.who)
  c2 : w.cell? ⟨b, 2, none⟩ = some (i64 m.ck)
  c3 : w.cell? ⟨b, 3, none⟩ = some (i64 m.ce)
  c4 : w.cell? ⟨b, 4, none⟩ = some (u64 m.v)
  c5 : w.cell? ⟨b, 5, none⟩ = some (i64 m.st)
  c6 : w.cell? ⟨b, 6, none⟩ = some (i64 m.n)
theorem AtM0.of {w : World} {b : Nat} {m : CM} (h : IsObj w b m.list) : AtM0 w b m := ⟨h.at' 0 _ rfl, h.at' 1 _ rfl, h.at' 2 _ rfl, h.at' 3 _ rfl, h.at' 4 _ rfl, h.at' 5 _ rfl, h.at' 6 _ rfl⟩
end Go.Proofs.Ytpfjommkjkbonaa
