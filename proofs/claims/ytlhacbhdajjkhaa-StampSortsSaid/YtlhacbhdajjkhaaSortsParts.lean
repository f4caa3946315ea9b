/-
  Plain lemmas: appending to a row that the call itself made, from a slice that may be nil; a list of stamps as cells; what is known of memory in StampSorts. No condition.
-/
import Derived.Test.YtlhacbhdajjkhaaWalkStampLeast
import Derived.Maps.AppendAt
import Derived.Deep.AppendLies
import Derived.RegionTactic
import Derived.OwnWalk
namespace Go.Proofs.Ytlhacbhdajjkhaa
open Go.RowKit

theorem run_append_of_nil {P : Program} (w : World) (base : Nat) (t ty e : TypeId) (i : TypeInfo) (size : Nat) (ht : P.underlying t = some (.slice e)) (hi : P.info? e = some i)
    (v : Value) (n : Nat) (xs : List Value) (hown : w.ownsRow base e size v n xs) (c : Nat) : (Builtin.append_ #[t, t] ty #[v, .slice none 0 c]).run P w = .ok v w := by
  rcases hown.2 with ⟨rfl, rfl⟩ | ⟨g, cap, cur, rfl, _, _, hnc, _⟩
  · simp [Builtin.append_, run_underlying ht, sizeOf, typeInfo, hi, Builtin.lenOf, Builtin.firstCells]
  · simp [Builtin.append_, run_underlying ht, sizeOf, typeInfo, hi, Builtin.lenOf, Builtin.firstCells, hnc, storeCells]

theorem run_append_src {P : Program} (w : World) (base : Nat) (t ty e : TypeId) (i : TypeInfo) (z : Value) (size bytes : Nat) (ht : P.underlying t = some (.slice e)) (hi : P.info? e = some i) (hz : i.zero = some z)
    (hsize : i.size = size) (hby : i.bytes = bytes) (hzs : z.cells.size = size) (hsz : 0 < size) (v : Value) (n : Nat) (xs : List Value) (hown : w.ownsRow base e size v n xs)
    (A : Option Addr) (m c : Nat) (news : List Value) (hA : A = none → m = 0) (hl : news.length = m * size) (hnews : ∀ ad, A = some ad → ∀ j u, news[j]? = some u → w.cell? (ad.add j) = some u) (h1 : ∀ u ∈ news, u.oneCell' = true)
    (h63 : n + m ≤ maxLen) (hbytes : (n + m) * bytes ≤ 140737488355328) (hbase : base ≤ w.heap.size) :
    ∃ v' w', (Builtin.append_ #[t, t] ty #[v, .slice A m c]).run P w = .ok v' w' ∧ w'.ownsRow base e size v' (n + m) (xs ++ news) ∧ w.grownBy w' v.ownBlock := by
  cases A with
  | none =>
    obtain rfl := hA rfl
    have hn : news = [] := List.eq_nil_of_length_eq_zero (by simpa using hl)
    subst hn
    exact ⟨v, w, run_append_of_nil w base t ty e i size ht hi v n xs hown c, by simpa using hown, ⟨rfl, rfl, rfl, Nat.le_refl _, fun _ _ _ => rfl⟩⟩
  | some ad =>
    obtain ⟨v', w', hr, h2, h3, _, _⟩ := run_append_own_at (P := P) w base t ty e i z size bytes ht hi hz hsize hby hzs hsz v n xs hown ad m c news hl (hnews ad rfl) h1 h63 hbytes hbase
    exact ⟨v', w', hr, h2, h3⟩

theorem wp_append_own {P : Program} {o : Oper} {a : Act} {w : World} {K : Act → World → Prop} {Q : Exit → Act → World → Prop} (s x : Operand) (t : TypeId)
    (ho : o.op = .call { callee := .builtin .append, args := #[s, x], argTypes := #[t, t] })
    (base : Nat) (e : TypeId) (i : TypeInfo) (z : Value) (size bytes : Nat) (ht : P.underlying t = some (.slice e)) (hi : P.info? e = some i) (hz : i.zero = some z)
    (hsize : i.size = size) (hby : i.bytes = bytes) (hzs : z.cells.size = size) (hsz : 0 < size)
    (v : Value) (n : Nat) (xs : List Value) (hs : a.eval s = v) (hown : w.ownsRow base e size v n xs)
    (A : Option Addr) (m c : Nat) (news : List Value) (hx : a.eval x = .slice A m c) (hA : A = none → m = 0) (hl : news.length = m * size) (hnews : ∀ ad, A = some ad → ∀ j u, news[j]? = some u → w.cell? (ad.add j) = some u) (h1 : ∀ u ∈ news, u.oneCell' = true)
    (h63 : n + m ≤ maxLen) (hbytes : (n + m) * bytes ≤ 140737488355328) (hbase : base ≤ w.heap.size)
    (h : ∀ v' w', w'.ownsRow base e size v' (n + m) (xs ++ news) → w.grownBy w' v.ownBlock → K (a.put o.dst v') w') : Oper.wp P o a w K Q := by
  obtain ⟨v', w', hr, h2, h3⟩ := run_append_src (P := P) w base t o.type e i z size bytes ht hi hz hsize hby hzs hsz v n xs hown A m c news hA hl hnews h1 h63 hbytes hbase
  unfold Oper.wp execOp
  simp only [ho, resolve, invoke, builtin, Sem.run_bind, Sem.run_pure, Result.andThen_ok, List.map_toArray, List.map_cons, List.map_nil, hs, hx, hr]
  exact h v' w' h2 h3

theorem wpList_append_src {P : Program} {ops : Array Oper} {rest : List Oper} {o : Oper} {a : Act} {w : World} {Q : Exit → Act → World → Prop} (hgd : o.guard = none) (s x : Operand) (t : TypeId)
    (ho : o.op = .call { callee := .builtin .append, args := #[s, x], argTypes := #[t, t] })
    (base : Nat) (e : TypeId) (i : TypeInfo) (z : Value) (size bytes : Nat) (ht : P.underlying t = some (.slice e)) (hi : P.info? e = some i) (hz : i.zero = some z)
    (hsize : i.size = size) (hby : i.bytes = bytes) (hzs : z.cells.size = size) (hsz : 0 < size)
    (v : Value) (n : Nat) (xs : List Value) (hs : a.eval s = v) (hown : w.ownsRow base e size v n xs)
    (A : Option Addr) (m c : Nat) (news : List Value) (hx : a.eval x = .slice A m c) (hA : A = none → m = 0) (hl : news.length = m * size) (hnews : ∀ ad, A = some ad → ∀ j u, news[j]? = some u → w.cell? (ad.add j) = some u) (h1 : ∀ u ∈ news, u.oneCell' = true)
    (h63 : n + m ≤ maxLen) (hbytes : (n + m) * bytes ≤ 140737488355328) (hbase : base ≤ w.heap.size)
    (h : ∀ v' w', w'.ownsRow base e size v' (n + m) (xs ++ news) → w.grownBy w' v.ownBlock → wpList P ops Q rest (a.put o.dst v') w') : wpList P ops Q (o :: rest) a w :=
  wpList_plain hgd fun _ hK => wp_append_own s x t ho base e i z size bytes ht hi hz hsize hby hzs hsz v n xs hs hown A m c news hx hA hl hnews h1 h63 hbytes hbase fun v' w' h2 h3 => hK _ _ (h v' w' h2 h3)

/-- A list of stamps as cells. -/
def flatS : List (Int × Int) → List Value
  | [] => []
  | p :: l => i64 p.1 :: i64 p.2 :: flatS l

theorem flatS_length : ∀ l : List (Int × Int), (flatS l).length = l.length * 2
  | [] => rfl
  | p :: l => by simp only [flatS, List.length_cons, flatS_length l]; omega
theorem flatS_append : ∀ a b : List (Int × Int), flatS (a ++ b) = flatS a ++ flatS b
  | [], _ => rfl
  | p :: a, b => by simp [flatS, flatS_append a b]
theorem flatS_one : ∀ (l : List (Int × Int)) (u : Value), u ∈ flatS l → u.oneCell' = true
  | [], _, h => by cases h
  | p :: l, u, h => by
    simp only [flatS, List.mem_cons] at h
    rcases h with rfl | rfl | h
    · rfl
    · rfl
    · exact flatS_one l u h
theorem flatS_at : ∀ (l : List (Int × Int)) (i : Nat), i < l.length → (flatS l)[i * 2]? = some (i64 (l.getD i (0, 0)).1) ∧ (flatS l)[i * 2 + 1]? = some (i64 (l.getD i (0, 0)).2)
  | [], _, h => by simp at h
  | p :: l, 0, _ => ⟨rfl, rfl⟩
  | p :: l, i + 1, h => by
    have ih := flatS_at l i (by simpa using h)
    have e : (i + 1) * 2 = i * 2 + 1 + 1 := by omega
    rw [e]
    simpa [flatS] using ih
/-- Cells that hold a list of stamps, said by place in the list: so it is by place in the row. -/
theorem flatS_cells {w : World} {b : Nat} : ∀ (l : List (Int × Int)) (off : Nat), (∀ i, i < l.length → w.cell? ⟨b, off + i * 2, none⟩ = some (i64 (l.getD i (0, 0)).1) ∧ w.cell? ⟨b, off + i * 2 + 1, none⟩ = some (i64 (l.getD i (0, 0)).2)) →
    ∀ j u, (flatS l)[j]? = some u → w.cell? ⟨b, off + j, none⟩ = some u
  | [], _, _, j, u, hj => by simp [flatS] at hj
  | p :: l, off, h, 0, u, hj => by
    simp [flatS] at hj
    subst hj
    simpa using (h 0 (by simp)).1
  | p :: l, off, h, 1, u, hj => by
    simp [flatS] at hj
    subst hj
    simpa using (h 0 (by simp)).2
  | p :: l, off, h, j + 2, u, hj => by
    have h' := flatS_cells (w := w) (b := b) l (off + 2) (fun i hi => by
      have := h (i + 1) (by simpa using hi)
      rw [show off + 2 + i * 2 = off + (i + 1) * 2 by omega]
      simpa using this) j u (by simpa [flatS] using hj)
    rw [show off + (j + 2) = off + 2 + j by omega]
    exact h'

/-- What is known of memory between two steps: the last stamp in block g; what is left. -/
structure Sorts (w : World) (g : Nat) (wr : World) (c d : Int) (v : Value) (X : List (Int × Int)) : Prop where
  c0 : wr.cell? ⟨g, 0, none⟩ = some (i64 c)
  c1 : wr.cell? ⟨g, 1, none⟩ = some (i64 d)
  fr : ∀ o, wr.frozen? ⟨g, o, none⟩ = false
  own : wr.ownsRow w.heap.size 23 2 v X.length (flatS X)
  ne : v.ownBlock ≠ some g
  old : w.heap.size ≤ g
  size : g + 1 ≤ wr.heap.size
  below : Below w.heap.size w wr

theorem ownS_below {w w' : World} {base : Nat} {e : TypeId} {sz : Nat} {v : Value} {n : Nat} {xs : List Value} (h : w.ownsRow base e sz v n xs) (hb : Below w.heap.size w w') : w'.ownsRow base e sz v n xs := by
  refine ⟨h.1, ?_⟩
  rcases h.2 with h1 | ⟨g, cap, cur, hv, hg, hh, h3⟩
  · exact .inl h1
  · exact .inr ⟨g, cap, cur, hv, hg, by rw [hb.block g (Array.getElem?_eq_some_iff.1 hh).1]; exact hh, h3⟩
theorem ownS_base {w : World} {base base' : Nat} {e : TypeId} {sz : Nat} {v : Value} {n : Nat} {xs : List Value} (h : w.ownsRow base e sz v n xs) (hb : base' ≤ base) : w.ownsRow base' e sz v n xs := by
  refine ⟨h.1, ?_⟩
  rcases h.2 with h1 | ⟨g, cap, cur, hv, hg, hh, h3⟩
  · exact .inl h1
  · exact .inr ⟨g, cap, cur, hv, by omega, hh, h3⟩
theorem ownS_set {w : World} {base : Nat} {e : TypeId} {sz : Nat} {v : Value} {n : Nat} {xs : List Value} (h : w.ownsRow base e sz v n xs) (p : Addr) (hp : v.ownBlock ≠ some p.block) (u : Value) : (w.setCell p u).ownsRow base e sz v n xs := by
  refine ⟨h.1, ?_⟩
  rcases h.2 with h1 | ⟨g, cap, cur, rfl, hg, hh, h3⟩
  · exact .inl h1
  · exact .inr ⟨g, cap, cur, rfl, hg, by rw [Below.heap_setCell _ _ _ _ (fun e => hp (by simp [Value.ownBlock, e]))]; exact hh, h3⟩

theorem Sorts.later {w : World} {g : Nat} {wr w1 : World} {c d : Int} {v : Value} {X : List (Int × Int)} (h : Sorts w g wr c d v X) (hb : Below wr.heap.size wr w1) : Sorts w g w1 c d v X :=
  ⟨cell_later hb h.c0, cell_later hb h.c1, fun o => (hb.frozen (p := ⟨g, o, none⟩) (by have := h.size; show g < _; omega)).trans (h.fr o), ownS_below h.own hb, h.ne, h.old, Nat.le_trans h.size hb.size, below_step h.below hb⟩
theorem Sorts.set {w : World} {g : Nat} {wr : World} {c d : Int} {v : Value} {X : List (Int × Int)} (h : Sorts w g wr c d v X) (x y : Int) : Sorts w g ((wr.setCell ⟨g, 0, none⟩ (.int .i64 x)).setCell ⟨g, 1, none⟩ (.int .i64 y)) x y v X :=
  ⟨(World.cell?_setCell_other _ _ _ _ (by simp)).trans (World.cell?_setCell_same _ _ _ h.c0), World.cell?_setCell_same _ _ _ ((World.cell?_setCell_other _ _ _ _ (by simp)).trans h.c1), fun o => by rw [World.frozen?_setCell, World.frozen?_setCell]; exact h.fr o,
    ownS_set (ownS_set h.own _ h.ne _) _ h.ne _, h.ne, h.old, by simpa [World.setCell] using h.size, below_set (below_set h.below h.old _) h.old _⟩
/-- What is left lies in a new row. -/
theorem Sorts.next {w : World} {g : Nat} {wr w1 : World} {c d : Int} {v v' : Value} {X X' : List (Int × Int)} (h : Sorts w g wr c d v X) (hb : Below wr.heap.size wr w1) (ho : w1.ownsRow wr.heap.size 23 2 v' X'.length (flatS X')) : Sorts w g w1 c d v' X' := by
  have h1 := h.later hb
  have hs := h.size
  exact ⟨h1.c0, h1.c1, h1.fr, ownS_base ho h.below.size, fun e => by have := (ho.lt g e).1; omega, h1.old, h1.size, h1.below⟩

theorem ownS_cells {w : World} {base : Nat} {e : TypeId} {v : Value} {X : List (Int × Int)} (h : w.ownsRow base e 2 v X.length (flatS X)) (hn : 0 < X.length) :
    ∃ g cap, v = .slice (some ⟨g, 0, none⟩) X.length cap ∧ X.length ≤ cap ∧ cap ≤ maxLen ∧ ∀ i, i < X.length → w.cell? ⟨g, 0 + i * 2, none⟩ = some (i64 (X.getD i (0, 0)).1) ∧ w.cell? ⟨g, 0 + i * 2 + 1, none⟩ = some (i64 (X.getD i (0, 0)).2) := by
  rcases h.2 with ⟨_, h0⟩ | ⟨g, cap, cur, hv, hg, hh, hnc, hcm, _⟩
  · omega
  · refine ⟨g, cap, hv, hnc, hcm, fun i hi => ?_⟩
    obtain ⟨x0, x1⟩ := flatS_at X i hi
    have c0 := h.cells (g := g) (by rw [hv]; rfl) _ _ x0
    have c1 := h.cells (g := g) (by rw [hv]; rfl) _ _ x1
    rw [addr_add] at c0 c1
    exact ⟨c0, c1⟩

theorem list_stamps {w : World} {a0 : Option Addr} {len cap : Nat} (h : IsRows w [.inl .i64, .inl .i64] a0 len cap) :
    ∃ X : List (Int × Int), X.length = len ∧ ∀ ad, a0 = some ad → ∀ j u, (flatS X)[j]? = some u → w.cell? (ad.add j) = some u := by
  by_cases hz : len = 0
  · exact ⟨[], hz.symm, fun ad _ j u hj => by simp [flatS] at hj⟩
  · obtain ⟨b, off, rfl⟩ := h.2.2.2.1 (by omega)
    obtain ⟨L, H, hc⟩ := rows_stamps h
    refine ⟨(List.range len).map fun i => (L i, H i), by simp, fun ad had j u hj => ?_⟩
    cases had
    rw [addr_add]
    refine flatS_cells _ off (fun i hi => ?_) j u hj
    have hi' : i < len := by simpa using hi
    have e : ((List.range len).map fun i => (L i, H i)).getD i (0, 0) = (L i, H i) := by simp [List.getD, hi']
    rw [e]
    exact hc i hi'

theorem flatS_head (X : List (Int × Int)) (m : Nat) (j : Nat) (u : Value) (h : (flatS (X.take m))[j]? = some u) : (flatS X)[j]? = some u := by
  have e : flatS X = flatS (X.take m) ++ flatS (X.drop m) := by rw [← flatS_append, List.take_append_drop]
  rw [e, List.getElem?_append_left (List.getElem?_eq_some_iff.1 h).1]
  exact h
theorem flatS_tail (X : List (Int × Int)) (m : Nat) (hm : m ≤ X.length) (j : Nat) (u : Value) (h : (flatS (X.drop m))[j]? = some u) : (flatS X)[m * 2 + j]? = some u := by
  have e : flatS X = flatS (X.take m) ++ flatS (X.drop m) := by rw [← flatS_append, List.take_append_drop]
  have hl : (flatS (X.take m)).length = m * 2 := by rw [flatS_length, List.length_take, Nat.min_eq_left hm]
  rw [e, List.getElem?_append_right (by omega), hl, Nat.add_sub_cancel_left]
  exact h

theorem cmpS_flip (a b c d : Int) (h : 0 ≤ cmpS a b c d) : cmpS c d a b ≤ 0 := by
  rw [cmpS_eq] at *
  revert h
  repeat' split
  all_goals omega

theorem sorts_least (X : List (Int × Int)) (m : Nat) (hm : leastF (fun i => (X.getD i (0, 0)).1) (fun i => (X.getD i (0, 0)).2) X.length = (m : Int)) (x y : Int) (hxy : X.getD m (0, 0) = (x, y)) :
    ∀ p ∈ X.take m ++ X.drop (m + 1), cmpS x y p.1 p.2 ≤ 0 := by
  intro p hp
  have hpX : p ∈ X := by
    rcases List.mem_append.1 hp with h | h
    · exact List.mem_of_mem_take h
    · exact List.mem_of_mem_drop h
  obtain ⟨j, hj, he⟩ := List.getElem_of_mem hpX
  have h := (least_spec (fun i => (X.getD i (0, 0)).1) (fun i => (X.getD i (0, 0)).2) X.length j hj).1
  rw [hm] at h
  have e1 : X.getD j (0, 0) = p := by rw [List.getD_eq_getElem?_getD, List.getElem?_eq_getElem hj, he]; rfl
  simp only [Int.toNat_natCast, e1, hxy] at h
  exact cmpS_flip _ _ _ _ h

theorem gen_world {P : Program} {c : Code} {Q : Exit → Act → World → Prop} {a : Act} {W0 : World} {S : World → Prop} (h : S W0) (k : ∀ W, S W → c.wp P Q a W) : c.wp P Q a W0 := k W0 h

/-- Where 'left[m+1:]' lies: its cells are what stands behind place m. -/
theorem tail_cells {W : World} {gb cap m : Nat} {X : List (Int × Int)} (hm : m + 1 ≤ X.length) (hcap : X.length ≤ cap) (hc : ∀ j u, (flatS X)[j]? = some u → W.cell? ⟨gb, j, none⟩ = some u) :
    ∃ ad : Addr, (if cap = m + 1 then some ({ block := gb, off := 0 } : Addr) else some { block := gb, off := (m + 1) * 2 }) = some ad ∧ ∀ j u, (flatS (X.drop (m + 1)))[j]? = some u → W.cell? (ad.add j) = some u := by
  by_cases h : cap = m + 1
  · refine ⟨_, if_pos h, fun j u hj => ?_⟩
    rw [List.drop_eq_nil_of_le (by omega)] at hj
    simp [flatS] at hj
  · refine ⟨_, if_neg h, fun j u hj => ?_⟩
    rw [addr_add]
    exact hc _ _ (flatS_tail X (m + 1) hm j u hj)

theorem own_none {w : World} {base : Nat} {e : TypeId} {sz : Nat} {v : Value} {xs : List Value} (h : w.ownsRow base e sz v 0 xs) : ∃ A c, v = .slice A 0 c := by
  rcases h.2 with ⟨h, _⟩ | ⟨_, cap, _, h, _⟩
  · exact ⟨none, 0, h⟩
  · exact ⟨_, cap, h⟩

theorem info_stamp : (Try.prog.info? 23).map (fun i => (i.zero, i.size, i.bytes)) = some (some (.agg #[.int .i64 0, .int .i64 0]), 2, 16) := by kernel_rfl

end Go.Proofs.Ytlhacbhdajjkhaa
