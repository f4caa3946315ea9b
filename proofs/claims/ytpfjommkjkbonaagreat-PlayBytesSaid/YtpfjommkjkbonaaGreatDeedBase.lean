/-
  Deeds as data, cell by cell; rows of deeds, of a call's own and as they came in. No condition.
-/
import Derived.Test.YtpfjommkjkbonaaGreatAKit
import Derived.Test.YtpfjommkjkbonaaGreatProg
namespace Go.Proofs.YtpfjommkjkbonaaGreat
open Go.RowKit
set_option linter.unusedVariables false

/-- A deed. -/
structure Dd where
  who : Int
  kd : Int
  e : Int
  x : Int
  s : Int
  fr : Int
  till : Int
  ok : Bool
  v : Int
  lo : Int
  hi : Int
/-- A deed's cells. -/
def Dd.list (d : Dd) : List Value := [i64 d.who, i64 d.kd, i64 d.e, u64 d.x, i64 d.s, i64 d.fr, i64 d.till, .bool d.ok, u64 d.v, i64 d.lo, i64 d.hi]
/-- Deeds, cell by cell. -/
def flatD : List Dd → List Value
  | [] => []
  | d :: l => d.list ++ flatD l
theorem flatD_append : ∀ a b : List Dd, flatD (a ++ b) = flatD a ++ flatD b
  | [], _ => rfl
  | d :: a, b => by simp [flatD, flatD_append a b]
theorem flatD_length : ∀ l : List Dd, (flatD l).length = l.length * 11
  | [] => rfl
  | d :: l => by simp only [flatD, List.length_append, List.length_cons, flatD_length l, Dd.list, List.length_nil]; omega
theorem Dd.one (d : Dd) (u : Value) (h : u ∈ d.list) : u.oneCell' = true := by
  simp only [Dd.list, List.mem_cons, List.not_mem_nil, or_false] at h
  rcases h with rfl | rfl | rfl | rfl | rfl | rfl | rfl | rfl | rfl | rfl | rfl <;> rfl
theorem flatD_one : ∀ (l : List Dd) (u : Value), u ∈ flatD l → u.oneCell' = true
  | [], _, h => by cases h
  | d :: l, u, h => by
    rw [flatD, List.mem_append] at h
    rcases h with h | h
    · exact d.one u h
    · exact flatD_one l u h
theorem flatD_at : ∀ {l : List Dd} {i j : Nat} {d : Dd}, l[i]? = some d → j < 11 → (flatD l)[i * 11 + j]? = d.list[j]?
  | [], i, j, d, h, hj => by simp at h
  | e :: l, 0, j, d, h, hj => by
    cases h
    rw [flatD, Nat.zero_mul, Nat.zero_add, List.getElem?_append_left (by exact hj)]
  | e :: l, i + 1, j, d, h, hj => by
    rw [List.getElem?_cons_succ] at h
    rw [flatD, List.getElem?_append_right (by show 11 ≤ _; omega), show (i + 1) * 11 + j - e.list.length = i * 11 + j by show (i + 1) * 11 + j - 11 = _; omega]
    exact flatD_at h hj
/-- One of them is turned. -/
theorem flatD_set : ∀ {l : List Dd} {i : Nat} {d d' : Dd} (us : List (Nat × Value)), l[i]? = some d → (∀ a ∈ us, a.1 < 11) → us.foldl (fun x a => x.set a.1 a.2) d.list = d'.list → us.foldl (fun x a => x.set (i * 11 + a.1) a.2) (flatD l) = flatD (l.set i d')
  | [], i, d, d', us, h, _, _ => by simp at h
  | e :: l, 0, d, d', us, h, hj, hu => by
    cases h
    rw [List.set_cons_zero, flatD, flatD, ← hu]
    clear hu
    have key : ∀ (x : List Value), x.length = 11 → us.foldl (fun x a => x.set (0 * 11 + a.1) a.2) (x ++ flatD l) = us.foldl (fun x a => x.set a.1 a.2) x ++ flatD l := by
      induction us with
      | nil => intro x _; rfl
      | cons a us ih =>
        intro x hx
        have ha := hj a (List.mem_cons_self)
        rw [List.foldl_cons, List.foldl_cons, Nat.zero_mul, Nat.zero_add, List.set_append_left _ _ (by omega)]
        exact ih (fun b hb => hj b (List.mem_cons_of_mem _ hb)) _ (by rw [List.length_set]; exact hx)
    exact key _ rfl
  | e :: l, i + 1, d, d', us, h, hj, hu => by
    rw [List.getElem?_cons_succ] at h
    rw [List.set_cons_succ, flatD, flatD, ← flatD_set us h hj hu]
    clear hu
    have key : ∀ (y : List Value), us.foldl (fun x a => x.set ((i + 1) * 11 + a.1) a.2) (e.list ++ y) = e.list ++ us.foldl (fun x a => x.set (i * 11 + a.1) a.2) y := by
      induction us with
      | nil => intro x; rfl
      | cons a us ih =>
        intro y
        have h11 : e.list.length = 11 := rfl
        rw [List.foldl_cons, List.foldl_cons, List.set_append_right _ _ (by omega), show (i + 1) * 11 + a.1 - e.list.length = i * 11 + a.1 by omega]
        exact ih (fun b hb => hj b (List.mem_cons_of_mem _ hb)) _
    exact key _
theorem modify_set {α : Type} {l : List α} {i : Nat} {f : α → α} {d : α} (h : l[i]? = some d) : l.modify i f = l.set i (f d) := by
  refine List.ext_getElem? (fun j => ?_)
  rw [List.getElem?_modify, List.getElem?_set]
  by_cases e : i = j
  · subst e
    rw [h, if_pos rfl, if_pos (List.getElem?_eq_some_iff.1 h).1]
    simp
  · rw [if_neg e]
    cases l[j]? <;> simp [e]

theorem elem_dd : ElemAt Tryz.prog 61 76 (.agg #[.int .i64 0, .int .i64 0, .int .i64 0, .int .u64 0, .int .i64 0, .int .i64 0, .int .i64 0, .bool false, .int .u64 0, .int .i64 0, .int .i64 0]) 11 88 :=
  ElemAt.mk' Tryz.underlying61 (by kernel_rfl) rfl (by decide)

/-- A deed that lies somewhere. -/
structure AtDd (w : World) (b o : Nat) (d : Dd) : Prop where
  c0 : w.cell? ⟨b, o, none⟩ = some (i64 d.who)
  c1 : w.cell? ⟨b, o + 1, none⟩ = some (i64 d.kd)
  c2 : w.cell? ⟨b, o + 2, none⟩ = some (i64 d.e)
  c3 : w.cell? ⟨b, o + 3, none⟩ = some (u64 d.x)
  c4 : w.cell? ⟨b, o + 4, none⟩ = some (i64 d.s)
  c5 : w.cell? ⟨b, o + 5, none⟩ = some (i64 d.fr)
  c6 : w.cell? ⟨b, o + 6, none⟩ = some (i64 d.till)
  c7 : w.cell? ⟨b, o + 7, none⟩ = some (.bool d.ok)
  c8 : w.cell? ⟨b, o + 8, none⟩ = some (u64 d.v)
  c9 : w.cell? ⟨b, o + 9, none⟩ = some (i64 d.lo)
  c10 : w.cell? ⟨b, o + 10, none⟩ = some (i64 d.hi)
/-- A deed in a block of its own. -/
structure AtBd (w : World) (b : Nat) (d : Dd) : Prop where
  c0 : w.cell? ⟨b, 0, none⟩ = some (i64 d.who)
  c1 : w.cell? ⟨b, 1, none⟩ = some (i64 d.kd)
  c2 : w.cell? ⟨b, 2, none⟩ = some (i64 d.e)
  c3 : w.cell? ⟨b, 3, none⟩ = some (u64 d.x)
  c4 : w.cell? ⟨b, 4, none⟩ = some (i64 d.s)
  c5 : w.cell? ⟨b, 5, none⟩ = some (i64 d.fr)
  c6 : w.cell? ⟨b, 6, none⟩ = some (i64 d.till)
  c7 : w.cell? ⟨b, 7, none⟩ = some (.bool d.ok)
  c8 : w.cell? ⟨b, 8, none⟩ = some (u64 d.v)
  c9 : w.cell? ⟨b, 9, none⟩ = some (i64 d.lo)
  c10 : w.cell? ⟨b, 10, none⟩ = some (i64 d.hi)
/-- A deed as a value. -/
abbrev Dd.val (d : Dd) : Value := .agg #[.int .i64 d.who, .int .i64 d.kd, .int .i64 d.e, .int .u64 d.x, .int .i64 d.s, .int .i64 d.fr, .int .i64 d.till, .bool d.ok, .int .u64 d.v, .int .i64 d.lo, .int .i64 d.hi]
/-- .. as a block of its own. -/
abbrev Dd.obj (d : Dd) (T : TypeId) : Obj := .cells #[.int .i64 d.who, .int .i64 d.kd, .int .i64 d.e, .int .u64 d.x, .int .i64 d.s, .int .i64 d.fr, .int .i64 d.till, .bool d.ok, .int .u64 d.v, .int .i64 d.lo, .int .i64 d.hi] T
theorem AtBd.made (w : World) (d : Dd) (T : TypeId) : AtBd (w.alloc (d.obj T)) w.heap.size d := ⟨by simp, by simp, by simp, by simp, by simp, by simp, by simp, by simp, by simp, by simp, by simp⟩
theorem AtBd.lt {w : World} {b : Nat} {d : Dd} (h : AtBd w b d) : b < w.heap.size := World.block_lt_of_cell? w _ h.c0
theorem AtBd.later {w w' : World} {b : Nat} {d : Dd} (h : AtBd w b d) (e : Below w.heap.size w w') : AtBd w' b d :=
  have k : ∀ j, w'.cell? ⟨b, j, none⟩ = w.cell? ⟨b, j, none⟩ := fun j => e.cell (p := ⟨b, j, none⟩) h.lt
  ⟨(k _).trans h.c0, (k _).trans h.c1, (k _).trans h.c2, (k _).trans h.c3, (k _).trans h.c4, (k _).trans h.c5, (k _).trans h.c6, (k _).trans h.c7, (k _).trans h.c8, (k _).trans h.c9, (k _).trans h.c10⟩
theorem AtBd.kept {w w' : World} {b : Nat} {d : Dd} {row : Option Nat} (h : AtBd w b d) (e : w.grownBy w' row) (hr : some b ≠ row) : AtBd w' b d :=
  have k : ∀ j, w'.cell? ⟨b, j, none⟩ = w.cell? ⟨b, j, none⟩ := fun j => World.cell?_of_block (e.block b h.lt hr)
  ⟨(k _).trans h.c0, (k _).trans h.c1, (k _).trans h.c2, (k _).trans h.c3, (k _).trans h.c4, (k _).trans h.c5, (k _).trans h.c6, (k _).trans h.c7, (k _).trans h.c8, (k _).trans h.c9, (k _).trans h.c10⟩
theorem AtDd.row {w : World} {base cap g i : Nat} {ds : List Dd} {d : Dd} (h : w.ownsRow base 76 11 (.slice (some ⟨g, 0, none⟩) ds.length cap) ds.length (flatD ds)) (hd : ds[i]? = some d) : AtDd w g (i * 11) d :=
  have hi := (List.getElem?_eq_some_iff.1 hd).1
  have k : ∀ j u, j < 11 → d.list[j]? = some u → w.cell? ⟨g, i * 11 + j, none⟩ = some u := fun j u hj hu => (h.cellAt _ (by omega)).trans ((flatD_at hd hj).trans hu)
  ⟨k 0 _ (by decide) rfl, k 1 _ (by decide) rfl, k 2 _ (by decide) rfl, k 3 _ (by decide) rfl, k 4 _ (by decide) rfl, k 5 _ (by decide) rfl, k 6 _ (by decide) rfl, k 7 _ (by decide) rfl, k 8 _ (by decide) rfl, k 9 _ (by decide) rfl, k 10 _ (by decide) rfl⟩
theorem AtDd.later {w w' : World} {b o : Nat} {d : Dd} (h : AtDd w b o d) (e : Below w.heap.size w w') : AtDd w' b o d :=
  have hb := World.block_lt_of_cell? w _ h.c0
  have k : ∀ j, w'.cell? ⟨b, j, none⟩ = w.cell? ⟨b, j, none⟩ := fun j => e.cell (p := ⟨b, j, none⟩) hb
  ⟨(k _).trans h.c0, (k _).trans h.c1, (k _).trans h.c2, (k _).trans h.c3, (k _).trans h.c4, (k _).trans h.c5, (k _).trans h.c6, (k _).trans h.c7, (k _).trans h.c8, (k _).trans h.c9, (k _).trans h.c10⟩
theorem own_cap {w : World} {base : Nat} {e : TypeId} {sz n cap : Nat} {A : Option Addr} {xs : List Value} (h : w.ownsRow base e sz (.slice A n cap) n xs) : n ≤ cap := by
  rcases h.2 with ⟨hv, h0⟩ | ⟨g, cap', cur, hv, _, _, hc, _⟩
  · omega
  · cases hv
    exact hc
theorem srcd_row {w : World} {base : Nat} {g cap : Nat} {L : List Dd} (h : w.ownsRow base 76 11 (.slice (some ⟨g, 0, none⟩) L.length cap) L.length (flatD L)) : Src w 11 (some ⟨g, 0, none⟩) L.length (flatD L) :=
  ⟨(fun h => by cases h), flatD_length L, fun ad had j u hj => by cases had; exact h.cells rfl j u hj, flatD_one L⟩

theorem AtDd.later' {w w' : World} {tb o B : Nat} {d : Dd} (h : AtDd w tb o d) (e : Below B w w') (hB : tb < B) : AtDd w' tb o d :=
  have k : ∀ j, w'.cell? ⟨tb, j, none⟩ = w.cell? ⟨tb, j, none⟩ := fun j => e.cell (p := ⟨tb, j, none⟩) hB
  ⟨(k _).trans h.c0, (k _).trans h.c1, (k _).trans h.c2, (k _).trans h.c3, (k _).trans h.c4, (k _).trans h.c5, (k _).trans h.c6, (k _).trans h.c7, (k _).trans h.c8, (k _).trans h.c9, (k _).trans h.c10⟩
/-- What numbers a deed may have. -/
structure Dd.Fit (d : Dd) : Prop where
  who : (Lit.int .i64 d.who).wf = true
  f0 : -9223372036854775808 ≤ d.fr
  f1 : d.fr ≤ 9223372036854775807
  t0 : -9223372036854775808 ≤ d.till
  t1 : d.till ≤ 9223372036854775807
/-- .. what values. -/
structure Dd.FitV (d : Dd) : Prop where
  x0 : 0 ≤ d.x
  x1 : d.x ≤ 18446744073709551615
  v0 : 0 ≤ d.v
  v1 : d.v ≤ 18446744073709551615
/-- A row of the deeds l. -/
def IsDds (w : World) (a0 : Option Addr) (len cap tb off : Nat) (l : List Dd) : Prop :=
  l.length = len ∧ len ≤ cap ∧ (0 < len → a0 = some ⟨tb, off, none⟩ ∧ tb < w.heap.size) ∧ ∀ (i : Nat) (d : Dd), l[i]? = some d → AtDd w tb (off + i * 11) d ∧ d.Fit
theorem IsDds.later {w w' : World} {a : Option Addr} {len cap tb off B : Nat} {l : List Dd} (h : IsDds w a len cap tb off l) (e : Below B w w') (hB : 0 < len → tb < B) : IsDds w' a len cap tb off l := by
  obtain ⟨h1, h2, h3, h4⟩ := h
  refine ⟨h1, h2, fun hp => ⟨(h3 hp).1, ?_⟩, fun i d hd => ?_⟩
  · obtain ⟨d, hd⟩ : ∃ d, l[0]? = some d := ⟨_, List.getElem?_eq_getElem (by omega)⟩
    exact World.block_lt_of_cell? w' _ ((h4 0 d hd).1.later' e (hB hp)).c0
  · have hp : 0 < len := by have := (List.getElem?_eq_some_iff.1 hd).1; omega
    exact ⟨(h4 i d hd).1.later' e (hB hp), (h4 i d hd).2⟩
theorem rows_dds {w : World} {a0 : Option Addr} {len cap : Nat} (h : IsRows w [.inl .i64, .inl .i64, .inl .i64, .inl .u64, .inl .i64, .inl .i64, .inl .i64, .inr true, .inl .u64, .inl .i64, .inl .i64] a0 len cap) : ∃ b off, ∃ l : List Dd, IsDds w a0 len cap b off l ∧ ∀ d ∈ l, d.FitV := by
  obtain ⟨h1, h2, h3, h4, h5⟩ := h
  rcases Nat.eq_zero_or_pos len with h0 | hl
  · exact ⟨0, 0, [], ⟨by rw [h0]; rfl, h1, fun hp => by omega, fun i d hd => by simp at hd⟩, fun d hd => by cases hd⟩
  obtain ⟨b, off, rfl⟩ := h4 hl
  have hx : ∀ i, ∃ x : Dd, i < len → AtDd w b (off + i * 11) x ∧ x.Fit ∧ x.FitV := by
    intro i
    by_cases hi : i < len
    · obtain ⟨cs, hf, hc⟩ := h5 b off rfl i hi
      obtain ⟨c0, l0, rfl, r0, f0⟩ := fit_cons hf
      obtain ⟨c1, l1, rfl, r1, f1⟩ := fit_cons f0
      obtain ⟨c2, l2, rfl, r2, f2⟩ := fit_cons f1
      obtain ⟨c3, l3, rfl, r3, f3⟩ := fit_cons f2
      obtain ⟨c4, l4, rfl, r4, f4⟩ := fit_cons f3
      obtain ⟨c5, l5, rfl, r5, f5⟩ := fit_cons f4
      obtain ⟨c6, l6, rfl, r6, f6⟩ := fit_cons f5
      obtain ⟨c7, l7, rfl, r7, f7⟩ := fit_cons f6
      obtain ⟨c8, l8, rfl, r8, f8⟩ := fit_cons f7
      obtain ⟨c9, l9, rfl, r9, f9⟩ := fit_cons f8
      obtain ⟨c10, l10, rfl, r10, f10⟩ := fit_cons f9
      obtain ⟨x0, rfl, g0⟩ := r0
      obtain ⟨x1, rfl, g1⟩ := r1
      obtain ⟨x2, rfl, g2⟩ := r2
      obtain ⟨x3, rfl, g3⟩ := r3
      obtain ⟨x4, rfl, g4⟩ := r4
      obtain ⟨x5, rfl, g5⟩ := r5
      obtain ⟨x6, rfl, g6⟩ := r6
      obtain ⟨x7, rfl⟩ := r7
      obtain ⟨x8, rfl, g8⟩ := r8
      obtain ⟨x9, rfl, g9⟩ := r9
      obtain ⟨x10, rfl, g10⟩ := r10
      exact ⟨⟨x0, x1, x2, x3, x4, x5, x6, x7, x8, x9, x10⟩, fun _ => ⟨⟨hc 0 _ rfl, hc 1 _ rfl, hc 2 _ rfl, hc 3 _ rfl, hc 4 _ rfl, hc 5 _ rfl, hc 6 _ rfl, hc 7 _ rfl, hc 8 _ rfl, hc 9 _ rfl, hc 10 _ rfl⟩, ⟨g0, (bounds_i64 g5).1, (bounds_i64 g5).2, (bounds_i64 g6).1, (bounds_i64 g6).2⟩, ⟨(bounds_u64 g3).1, (bounds_u64 g3).2, (bounds_u64 g8).1, (bounds_u64 g8).2⟩⟩⟩
    · exact ⟨⟨0, 0, 0, 0, 0, 0, 0, false, 0, 0, 0⟩, fun h => absurd h hi⟩
  obtain ⟨X, hX⟩ := Classical.axiomOfChoice hx
  have key : ∀ (i : Nat) (d : Dd), ((List.range len).map X)[i]? = some d → i < len ∧ d = X i := fun i d hd => by
    rw [List.getElem?_map] at hd
    cases hr : (List.range len)[i]? with
    | none => rw [hr] at hd; cases hd
    | some k =>
      rw [hr] at hd
      obtain ⟨h6, h7⟩ := List.getElem?_eq_some_iff.1 hr
      rw [List.length_range] at h6
      rw [List.getElem_range] at h7
      subst h7
      cases hd
      exact ⟨h6, rfl⟩
  refine ⟨b, off, (List.range len).map X, ⟨by rw [List.length_map, List.length_range], h1, fun hp => ⟨rfl, World.block_lt_of_cell? w _ (hX 0 hp).1.c0⟩, fun i d hd => ?_⟩, fun d hd => ?_⟩
  · obtain ⟨h6, rfl⟩ := key i d hd
    exact ⟨(hX i h6).1, (hX i h6).2.1⟩
  · obtain ⟨i, hi⟩ := List.mem_iff_getElem?.1 hd
    obtain ⟨h6, rfl⟩ := key i d hi
    exact (hX i h6).2.2

end Go.Proofs.YtpfjommkjkbonaaGreat
