/-
  Deeds, compared cell by cell: a deed that lies in a row, or in a block of its own. No condition.
-/
import Derived.Test.YthlmekkijknooaaGreatYardSame
namespace Go.Proofs.YthlmekkijknooaaGreat
open Go.RowKit
set_option linter.unusedVariables false

/-- A deed that lies somewhere. -/
structure AtDd (w : World) (b o : Nat) (d : Dd) : Prop where
  c0 : w.cell? ⟨b, o, none⟩ = some (i64 d.who)
  c1 : w.cell? ⟨b, o + 1, none⟩ = some (i64 d.kd)
  c2 : w.cell? ⟨b, o + 2, none⟩ = some (i64 d.e)
  c3 : w.cell? ⟨b, o + 3, none⟩ = some (u64 d.x)
  c4 : w.cell? ⟨b, o + 4, none⟩ = some (i64 d.s)
  c5 : w.cell? ⟨b, o + 5, none⟩ = some (i64 d.fr)
  c6 : w.cell? ⟨b, o + 6, none⟩ = some (i64 d.till)
  c7 : w.cell? ⟨b, o + 7, none⟩ = some (.bool d.ok)
  c8 : w.cell? ⟨b, o + 8, none⟩ = some (u64 d.v)
  c9 : w.cell? ⟨b, o + 9, none⟩ = some (i64 d.lo)
  c10 : w.cell? ⟨b, o + 10, none⟩ = some (i64 d.hi)
/-- .. in a block of its own. -/
structure AtBd (w : World) (b : Nat) (d : Dd) : Prop where
  c0 : w.cell? ⟨b, 0, none⟩ = some (i64 d.who)
  c1 : w.cell? ⟨b, 1, none⟩ = some (i64 d.kd)
  c2 : w.cell? ⟨b, 2, none⟩ = some (i64 d.e)
  c3 : w.cell? ⟨b, 3, none⟩ = some (u64 d.x)
  c4 : w.cell? ⟨b, 4, none⟩ = some (i64 d.s)
  c5 : w.cell? ⟨b, 5, none⟩ = some (i64 d.fr)
  c6 : w.cell? ⟨b, 6, none⟩ = some (i64 d.till)
  c7 : w.cell? ⟨b, 7, none⟩ = some (.bool d.ok)
  c8 : w.cell? ⟨b, 8, none⟩ = some (u64 d.v)
  c9 : w.cell? ⟨b, 9, none⟩ = some (i64 d.lo)
  c10 : w.cell? ⟨b, 10, none⟩ = some (i64 d.hi)
theorem AtBd.of {w : World} {b : Nat} {d : Dd} (h : IsObj w b d.list) : AtBd w b d :=
  ⟨h.at' 0 _ rfl, h.at' 1 _ rfl, h.at' 2 _ rfl, h.at' 3 _ rfl, h.at' 4 _ rfl, h.at' 5 _ rfl, h.at' 6 _ rfl, h.at' 7 _ rfl, h.at' 8 _ rfl, h.at' 9 _ rfl, h.at' 10 _ rfl⟩
theorem AtDd.row {w : World} {base cap g i : Nat} {ds : List Dd} {d : Dd} (h : w.ownsRow base 55 11 (.slice (some ⟨g, 0, none⟩) ds.length cap) ds.length (flatD ds)) (hd : ds[i]? = some d) : AtDd w g (i * 11) d :=
  have hi := (List.getElem?_eq_some_iff.1 hd).1
  have k : ∀ j u, j < 11 → d.list[j]? = some u → w.cell? ⟨g, i * 11 + j, none⟩ = some u := fun j u hj hu => (h.cellAt _ (by omega)).trans ((flatD_at hd hj).trans hu)
  ⟨k 0 _ (by decide) rfl, k 1 _ (by decide) rfl, k 2 _ (by decide) rfl, k 3 _ (by decide) rfl, k 4 _ (by decide) rfl, k 5 _ (by decide) rfl, k 6 _ (by decide) rfl, k 7 _ (by decide) rfl, k 8 _ (by decide) rfl, k 9 _ (by decide) rfl, k 10 _ (by decide) rfl⟩
theorem AtDd.later {w w' : World} {b o : Nat} {d : Dd} (h : AtDd w b o d) (e : Below w.heap.size w w') : AtDd w' b o d :=
  have hb := World.block_lt_of_cell? w _ h.c0
  have k : ∀ j, w'.cell? ⟨b, j, none⟩ = w.cell? ⟨b, j, none⟩ := fun j => e.cell (p := ⟨b, j, none⟩) hb
  ⟨(k _).trans h.c0, (k _).trans h.c1, (k _).trans h.c2, (k _).trans h.c3, (k _).trans h.c4, (k _).trans h.c5, (k _).trans h.c6, (k _).trans h.c7, (k _).trans h.c8, (k _).trans h.c9, (k _).trans h.c10⟩
theorem own_cap {w : World} {base : Nat} {e : TypeId} {sz n cap : Nat} {A : Option Addr} {xs : List Value} (h : w.ownsRow base e sz (.slice A n cap) n xs) : n ≤ cap := by
  rcases h.2 with ⟨hv, h0⟩ | ⟨g, cap', cur, hv, _, _, hc, _⟩
  · omega
  · cases hv
    exact hc
theorem YLater.dlen {Y Y' : Yd} (h : YLater Y Y') : Y.ds.length ≤ Y'.ds.length := by
  rcases Nat.eq_zero_or_pos Y.ds.length with h0 | hp
  · omega
  · obtain ⟨d', hd, _⟩ := h.deed (Y.ds.length - 1) (Y.ds[Y.ds.length - 1]'(by omega)) (List.getElem?_eq_getElem (by omega))
    have := (List.getElem?_eq_some_iff.1 hd).1
    omega
theorem YOk.tills' {pl : Nat → Pl} {t n q : Nat} {Y : Yd} {d : Dd} (ho : YOk pl t n Y) (hd : Y.ds[q]? = some d) : d.till = -1 ∨ 0 ≤ d.till := by
  by_cases h : d.till = -1
  · exact .inl h
  · have := (ho.deed q d hd).2.1
    have := ((ho.deed q d hd).2.2.2 h).1
    exact .inr (by omega)
/-- Words and values as they were told, a memory, a layout. -/
structure AtPl (w : World) (b p c : Nat) (v : Value) (C : List Int) (L : List Ev) (g gv cb N : Nat) (t s so d : Int) : Prop where
  mem : IsMem b w p c v C L
  words : ∀ i, i < N → w.cell? ⟨g, i, none⟩ = some (u64 (C.getD i 0))
  values : ∀ i, i < N → w.cell? ⟨gv, i, none⟩ = some (u64 (C.getD (N + i) 0))
  conf : AtC w cb t s so d
theorem AtPl.later {w w' : World} {b p c : Nat} {v : Value} {C : List Int} {L : List Ev} {g gv cb N : Nat} {t s so d : Int} (h : AtPl w b p c v C L g gv cb N t s so d) (e : Below w.heap.size w w') : AtPl w' b p c v C L g gv cb N t s so d :=
  ⟨h.mem.later e, fun i hi => (e.cell (p := ⟨g, i, none⟩) (World.block_lt_of_cell? w _ (h.words i hi))).trans (h.words i hi), fun i hi => (e.cell (p := ⟨gv, i, none⟩) (World.block_lt_of_cell? w _ (h.values i hi))).trans (h.values i hi), h.conf.later e (World.block_lt_of_cell? w _ h.conf.c0)⟩
theorem PlacesPost.at {C : List Int} {N off : Nat} {w w' : World} {r : Ending} (h : PlacesPost C N off w r w') (hN : 0 < N) : ∃ g cap, r = .returned (.slice (some ⟨g, 0, none⟩) N cap) ∧ (∀ i, i < N → w'.cell? ⟨g, i, none⟩ = some (u64 (C.getD (off + i) 0))) ∧ Below w.heap.size w w' := by
  obtain ⟨u, Xs, rfl, hr, hl, hx, hb⟩ := h
  obtain ⟨g, cap, rfl⟩ := own_at hr hN
  exact ⟨g, cap, rfl, fun i hi => by rw [← hx i hi]; exact row_at hr hi, hb⟩

end Go.Proofs.YthlmekkijknooaaGreat
