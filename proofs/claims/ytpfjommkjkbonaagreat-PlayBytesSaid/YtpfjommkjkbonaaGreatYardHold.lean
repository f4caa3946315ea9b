/-
  What a call holds that has a yard: cells, the yard's own struct, a row of what each thread has under way, the deeds, a task a thread. What is done to one of them, and what that leaves of all others. No condition.
-/
import Derived.Test.YtpfjommkjkbonaaGreatYardRows
namespace Go.Proofs.YtpfjommkjkbonaaGreat
open Go.RowKit
set_option linter.unusedVariables false

section
variable {W w w' : World} {l : List Thing}
theorem Hold.objSet (h : Hold W w l) (i : Nat) {b : Nat} {xs : List Value} (hi : l[i]? = some (tObj W.heap.size b xs)) (j : Nat) (u : Value) : Hold W (w.setCell ⟨b, j, none⟩ u) (l.set i (tObj W.heap.size b (xs.set j u))) :=
  h.turn i hi ((Keep.refl _ _).own j u |>.mono (fun q hq => hq)) (tObj_ok _ _ _) ⟨(h.has i _ hi).1.set j u, (h.has i _ hi).2⟩ (fun q hq => .inl hq)
theorem Hold.rowSet (h : Hold W w l) (i : Nat) {e : TypeId} {sz n cap g : Nat} {xs : List Value} (hi : l[i]? = some (tRow W.heap.size e sz (.slice (some ⟨g, 0, none⟩) n cap) n xs)) (j : Nat) (u : Value) :
    Hold W (w.setCell ⟨g, j, none⟩ u) (l.set i (tRow W.heap.size e sz (.slice (some ⟨g, 0, none⟩) n cap) n (xs.set j u))) := by
  have hr : w.ownsRow W.heap.size e sz (.slice (some ⟨g, 0, none⟩) n cap) n xs := h.has i _ hi
  have k : Keep (tRow W.heap.size e sz (.slice (some ⟨g, 0, none⟩) n cap) n xs).F w (w.setCell ⟨g, j, none⟩ u) := (Keep.refl _ _).setCell ⟨g, j, none⟩ (by show some g = some g; rfl) u
  exact h.turn i hi k (tRow_ok _ _ _ _ _ _) (hr.stored j u).1 (fun q hq => .inl hq)
end

/-- Where a yard lies. -/
structure YB where
  yb : Nat
  tb : Nat
  p : Nat
  c : Nat
  t : Int
  s : Int
  so : Int
  d : Int
  T : Nat
def YB.list (B : YB) (vd : Value) (Y : Yd) : List Value := [i64 B.t, i64 B.s, i64 B.so, i64 B.d, pt B.p, .slice (some ⟨B.tb, 0, none⟩) B.T B.T, vd, i64 Y.moves, i64 Y.now]

/-- A yard that lies in the first four of all things; each thread's task in a place of its own behind them. -/
structure YAt (W w : World) (l : List Thing) (B : YB) (Y : Yd) (J : Nat → Nat) (v vd : Value) (X : List Value) : Prop where
  hold : Hold W w l
  mem : l[0]? = some (tMem W.heap.size B.p B.c v Y.C Y.L)
  obj : l[1]? = some (tObj W.heap.size B.yb (B.list vd Y))
  row : l[2]? = some (tObj W.heap.size B.tb X)
  deeds : l[3]? = some (tRow W.heap.size 76 11 vd Y.ds.length (flatD Y.ds))
  hT : (B.T : Int) = B.t
  xl : X.length = B.T * 2
  tl : Y.ts.length = B.T
  idle : ∀ (k : Nat), Y.ts[k]? = some none → X[k * 2]? = some (.pointer none)
  busy : ∀ (k : Nat) (T : Wk) (i : Nat), Y.ts[k]? = some (some (T, i)) → ∃ y, X[k * 2]? = some (pt y.b) ∧ X[k * 2 + 1]? = some (i64 i) ∧ 4 ≤ J k ∧ l[J k]? = some (wT W.heap.size y) ∧ y.T = T
  inj : ∀ (k k' : Nat) (a a' : Wk × Nat), Y.ts[k]? = some (some a) → Y.ts[k']? = some (some a') → k ≠ k' → J k ≠ J k'

def YH (W w : World) (l : List Thing) (B : YB) (Y : Yd) (J : Nat → Nat) : Prop := ∃ v vd X, YAt W w l B Y J v vd X

/-- A place that isn't the yard's. -/
def YFree (Y : Yd) (J : Nat → Nat) (j : Nat) : Prop := 4 ≤ j ∧ ∀ (k : Nat) (a : Wk × Nat), Y.ts[k]? = some (some a) → J k ≠ j
/-- What isn't the yard's stays. -/
structure YGo (Y Y' : Yd) (l l' : List Thing) (J J' : Nat → Nat) : Prop where
  len : l.length ≤ l'.length
  keep : ∀ j A, l[j]? = some A → YFree Y J j → l'[j]? = some A
  free : ∀ j, j < l.length → YFree Y J j → YFree Y' J' j
theorem YGo.refl (Y : Yd) (l : List Thing) (J : Nat → Nat) : YGo Y Y l l J J := ⟨Nat.le_refl _, fun _ _ h _ => h, fun _ _ h => h⟩
theorem YGo.trans {Y Y1 Y2 : Yd} {l l1 l2 : List Thing} {J J1 J2 : Nat → Nat} (a : YGo Y Y1 l l1 J J1) (b : YGo Y1 Y2 l1 l2 J1 J2) : YGo Y Y2 l l2 J J2 :=
  ⟨Nat.le_trans a.len b.len, fun j A h hf => b.keep j A (a.keep j A h hf) (a.free j (List.getElem?_eq_some_iff.1 h).1 hf), fun j h hf => b.free j (Nat.lt_of_lt_of_le h a.len) (a.free j h hf)⟩

section
variable {W w w' : World} {l : List Thing} {B : YB} {Y : Yd} {J : Nat → Nat} {v vd : Value} {X : List Value}

theorem YAt.later (h : YAt W w l B Y J v vd X) (e : Below w.heap.size w w') : YAt W w' l B Y J v vd X := { h with hold := h.hold.later e }
theorem YH.later (h : YH W w l B Y J) (e : Below w.heap.size w w') : YH W w' l B Y J := by
  obtain ⟨v, vd, X, h⟩ := h
  exact ⟨v, vd, X, h.later e⟩
theorem YH.drew (h : YH W w l B Y J) : YH W w.drew l B Y J := h.later (Below.refl _ _).drew
theorem YH.hold (h : YH W w l B Y J) : Hold W w l := by
  obtain ⟨v, vd, X, h⟩ := h
  exact h.hold
theorem YH.below (h : YH W w l B Y J) : Below W.heap.size W w := h.hold.below
theorem YH.size (h : YH W w l B Y J) : W.heap.size ≤ w.heap.size := h.hold.size
theorem YH.fit (h : YH W w l B Y J) : ∀ j, 0 ≤ Y.C.getD j 0 ∧ Y.C.getD j 0 ≤ 18446744073709551615 := by
  obtain ⟨v, vd, X, h⟩ := h
  have hm : IsMem W.heap.size w B.p B.c v Y.C Y.L := h.hold.has 0 _ h.mem
  exact hm.fit
theorem YH.memAt (h : YH W w l B Y J) : ∃ v, IsMem W.heap.size w B.p B.c v Y.C Y.L := by
  obtain ⟨v, vd, X, h⟩ := h
  exact ⟨v, h.hold.has 0 _ h.mem⟩
/-- Something new beside it. -/
theorem YH.more (h : YH W w l B Y J) {A : Thing} (e : Below w.heap.size w w') (ok : A.Ok W.heap.size) (hP : A.P w') (hF : ∀ q, A.F q → w.heap.size ≤ q) : YH W w' (l ++ [A]) B Y J := by
  obtain ⟨v, vd, X, h⟩ := h
  have up : ∀ {i : Nat} {A' : Thing}, l[i]? = some A' → (l ++ [A])[i]? = some A' := fun hi => by rw [List.getElem?_append_left (List.getElem?_eq_some_iff.1 hi).1]; exact hi
  refine ⟨v, vd, X, h.hold.more e ok hP hF, up h.mem, up h.obj, up h.row, up h.deeds, h.hT, h.xl, h.tl, h.idle, fun k T i hk => ?_, h.inj⟩
  obtain ⟨y, a, b, c, d, f⟩ := h.busy k T i hk
  exact ⟨y, a, b, c, up d, f⟩
/-- Something else is turned. -/
theorem YH.other (h : YH W w l B Y J) {l' : List Thing} (hl : Hold W w' l') (hk : ∀ j A, l[j]? = some A → ¬ YFree Y J j → l'[j]? = some A) : YH W w' l' B Y J := by
  obtain ⟨v, vd, X, h⟩ := h
  have low : ∀ {j : Nat}, j < 4 → ¬ YFree Y J j := fun hj hf => by have := hf.1; omega
  refine ⟨v, vd, X, hl, hk _ _ h.mem (low (by omega)), hk _ _ h.obj (low (by omega)), hk _ _ h.row (low (by omega)), hk _ _ h.deeds (low (by omega)), h.hT, h.xl, h.tl, h.idle, fun k T i hk' => ?_, h.inj⟩
  obtain ⟨y, a, b, c, d, f⟩ := h.busy k T i hk'
  exact ⟨y, a, b, c, hk _ _ d (fun hf => hf.2 k _ hk' rfl), f⟩

theorem YAt.objAt (h : YAt W w l B Y J v vd X) : IsObj w B.yb (B.list vd Y) := (h.hold.has 1 _ h.obj).1
theorem YAt.rowAt (h : YAt W w l B Y J v vd X) : IsObj w B.tb X := (h.hold.has 2 _ h.row).1
theorem YAt.ne (h : YAt W w l B Y J v vd X) : B.tb ≠ B.yb := fun e => h.hold.apart 1 2 _ _ h.obj h.row (by omega) B.yb rfl e.symm
theorem YAt.own (h : YAt W w l B Y J v vd X) : w.ownsRow W.heap.size 76 11 vd Y.ds.length (flatD Y.ds) := h.hold.has 3 _ h.deeds
theorem YAt.dne (h : YAt W w l B Y J v vd X) : vd.ownBlock ≠ some B.yb ∧ vd.ownBlock ≠ some B.tb := ⟨fun e => h.hold.apart 1 3 _ _ h.obj h.deeds (by omega) B.yb rfl e, fun e => h.hold.apart 2 3 _ _ h.row h.deeds (by omega) B.tb rfl e⟩

/-- A number of the yard's own is turned (moves, or the time). -/
theorem YAt.setMoves (h : YAt W w l B Y J v vd X) (m : Nat) : YAt W (w.setCell ⟨B.yb, 7, none⟩ (i64 m)) (l.set 1 (tObj W.heap.size B.yb (B.list vd { Y with moves := m }))) B { Y with moves := m } J v vd X :=
  ⟨h.hold.objSet 1 h.obj 7 (i64 m), by rw [List.getElem?_set_ne (by omega)]; exact h.mem, List.getElem?_set_self (List.getElem?_eq_some_iff.1 h.obj).1, by rw [List.getElem?_set_ne (by omega)]; exact h.row, by rw [List.getElem?_set_ne (by omega)]; exact h.deeds, h.hT, h.xl, h.tl, h.idle, fun k T i hk => by
    obtain ⟨y, a, b, c, d, f⟩ := h.busy k T i hk
    exact ⟨y, a, b, c, by rw [List.getElem?_set_ne (by omega)]; exact d, f⟩, h.inj⟩
theorem YAt.setNow (h : YAt W w l B Y J v vd X) (n : Int) : YAt W (w.setCell ⟨B.yb, 8, none⟩ (i64 n)) (l.set 1 (tObj W.heap.size B.yb (B.list vd { Y with now := n }))) B { Y with now := n } J v vd X :=
  ⟨h.hold.objSet 1 h.obj 8 (i64 n), by rw [List.getElem?_set_ne (by omega)]; exact h.mem, List.getElem?_set_self (List.getElem?_eq_some_iff.1 h.obj).1, by rw [List.getElem?_set_ne (by omega)]; exact h.row, by rw [List.getElem?_set_ne (by omega)]; exact h.deeds, h.hT, h.xl, h.tl, h.idle, fun k T i hk => by
    obtain ⟨y, a, b, c, d, f⟩ := h.busy k T i hk
    exact ⟨y, a, b, c, by rw [List.getElem?_set_ne (by omega)]; exact d, f⟩, h.inj⟩
/-- One more deed. -/
theorem YAt.addDeed (h : YAt W w l B Y J v vd X) {w1 : World} {vd' : Value} (dd : Dd) (hG : Grew w w1 W.heap.size 76 11 vd vd' (Y.ds.length + 1) (flatD Y.ds ++ dd.list)) :
    YAt W (w1.setCell ⟨B.yb, 6, none⟩ vd') ((l.set 3 (tRow W.heap.size 76 11 vd' (Y.ds.length + 1) (flatD Y.ds ++ dd.list))).set 1 (tObj W.heap.size B.yb (B.list vd' { Y with ds := Y.ds ++ [dd] }))) B { Y with ds := Y.ds ++ [dd] } J v vd' X := by
  have h1 := h.hold.append 3 rfl h.deeds hG
  have e1 : (l.set 3 (tRow W.heap.size 76 11 vd' (Y.ds.length + 1) (flatD Y.ds ++ dd.list)))[1]? = some (tObj W.heap.size B.yb (B.list vd Y)) := by rw [List.getElem?_set_ne (by omega)]; exact h.obj
  refine ⟨h1.objSet 1 e1 6 vd', by rw [List.getElem?_set_ne (by omega), List.getElem?_set_ne (by omega)]; exact h.mem, List.getElem?_set_self (List.getElem?_eq_some_iff.1 e1).1, by rw [List.getElem?_set_ne (by omega), List.getElem?_set_ne (by omega)]; exact h.row, ?_, h.hT, h.xl, h.tl, h.idle, fun k T i hk => ?_, h.inj⟩
  · rw [List.getElem?_set_ne (by omega), List.getElem?_set_self (List.getElem?_eq_some_iff.1 h.deeds).1]
    show some (tRow _ _ _ _ _ _) = some (tRow _ _ _ _ (Y.ds ++ [dd]).length (flatD (Y.ds ++ [dd])))
    rw [List.length_append, List.length_singleton, flatD_append]
    simp [flatD]
  · obtain ⟨y, a, b, c, d, f⟩ := h.busy k T i hk
    exact ⟨y, a, b, c, by rw [List.getElem?_set_ne (by omega), List.getElem?_set_ne (by omega)]; exact d, f⟩
/-- A thread has a new task. -/
theorem YAt.begin (h : YAt W w l B Y J v vd X) {A : Nat} {w1 : World} {y : WT} {i : Nat} (hw : Y.ts[A]? = some none) (h1 : Hold W w1 (l ++ [wT W.heap.size y])) :
    YAt W ((w1.setCell ⟨B.tb, A * 2, none⟩ (pt y.b)).setCell ⟨B.tb, A * 2 + 1, none⟩ (i64 i)) ((l ++ [wT W.heap.size y]).set 2 (tObj W.heap.size B.tb ((X.set (A * 2) (pt y.b)).set (A * 2 + 1) (i64 i)))) B { Y with ts := Y.ts.set A (some (y.T, i)) } (fun k => if k = A then l.length else J k) v vd ((X.set (A * 2) (pt y.b)).set (A * 2 + 1) (i64 i)) := by
  have up : ∀ {j : Nat} {A' : Thing}, l[j]? = some A' → (l ++ [wT W.heap.size y])[j]? = some A' := fun hi => by rw [List.getElem?_append_left (List.getElem?_eq_some_iff.1 hi).1]; exact hi
  have hA : A < B.T := by have := (List.getElem?_eq_some_iff.1 hw).1; have := h.tl; omega
  have h4 : 4 ≤ l.length := by have := (List.getElem?_eq_some_iff.1 h.deeds).1; omega
  have h2 := h1.objSet 2 (up h.row) (A * 2) (pt y.b)
  have h3 := h2.objSet 2 (List.getElem?_set_self (List.getElem?_eq_some_iff.1 (up h.row)).1) (A * 2 + 1) (i64 i)
  rw [List.set_set] at h3
  have hxl := h.xl
  have Xget : ∀ j, j ≠ A * 2 → j ≠ A * 2 + 1 → ((X.set (A * 2) (pt y.b)).set (A * 2 + 1) (i64 i))[j]? = X[j]? := fun j a b => by rw [List.getElem?_set_ne (fun e => b e.symm), List.getElem?_set_ne (fun e => a e.symm)]
  refine ⟨h3, by rw [List.getElem?_set_ne (by omega)]; exact up h.mem, by rw [List.getElem?_set_ne (by omega)]; exact up h.obj, List.getElem?_set_self (List.getElem?_eq_some_iff.1 (up h.row)).1, by rw [List.getElem?_set_ne (by omega)]; exact up h.deeds, h.hT, by rw [List.length_set, List.length_set]; exact hxl, by show (Y.ts.set A _).length = _; rw [List.length_set]; exact h.tl, fun k hk => ?_, fun k T j hk => ?_, fun k k' a a' hk hk' hne => ?_⟩
  · rcases yset hk with ⟨_, he, _⟩ | ⟨hne, hk⟩
    · cases he
    · rw [Xget _ (by omega) (by omega)]
      exact h.idle k hk
  · rcases yset hk with ⟨rfl, he, _⟩ | ⟨hne, hk⟩
    · cases he
      refine ⟨y, by rw [List.getElem?_set_ne (by omega), List.getElem?_set_self (by omega)], List.getElem?_set_self (by rw [List.length_set]; omega), by simp only [if_true]; exact h4, ?_, rfl⟩
      simp only [if_true]
      rw [List.getElem?_set_ne (by omega), List.getElem?_append_right (Nat.le_refl _), Nat.sub_self]
      rfl
    · obtain ⟨y', a, b, c, d, f⟩ := h.busy k T j hk
      have hk2 : ¬ k = A := fun e => hne e.symm
      refine ⟨y', by rw [Xget _ (by omega) (by omega)]; exact a, by rw [Xget _ (by omega) (by omega)]; exact b, by simp only [hk2, if_false]; exact c, ?_, f⟩
      simp only [hk2, if_false]
      rw [List.getElem?_set_ne (by omega)]
      exact up d
  · have lt : ∀ k a, k ≠ A → (Y.ts.set A (some (y.T, i)))[k]? = some (some a) → J k < l.length := fun k a hn hk => by
      rcases yset hk with ⟨e, _, _⟩ | ⟨_, hk⟩
      · exact absurd e.symm hn
      · obtain ⟨y', _, _, _, d, _⟩ := h.busy k a.1 a.2 hk
        exact (List.getElem?_eq_some_iff.1 d).1
    by_cases e : k = A
    · have e' : ¬ k' = A := fun e' => hne (e.trans e'.symm)
      have := lt k' a' e' hk'
      simp only [e, e', if_true, if_false]
      omega
    · by_cases e' : k' = A
      · have := lt k a e hk
        simp only [e, e', if_true, if_false]
        omega
      · simp only [e, e', if_false]
        rcases yset hk with ⟨x, _, _⟩ | ⟨_, hk⟩
        · exact absurd x.symm e
        · rcases yset hk' with ⟨x, _, _⟩ | ⟨_, hk'⟩
          · exact absurd x.symm e'
          · exact h.inj k k' a a' hk hk' hne
/-- A thread has none any more. -/
theorem YAt.end (h : YAt W w l B Y J v vd X) {A : Nat} (hA : A < B.T) :
    YAt W (w.setCell ⟨B.tb, A * 2, none⟩ (.pointer none)) (l.set 2 (tObj W.heap.size B.tb (X.set (A * 2) (.pointer none)))) B { Y with ts := Y.ts.set A none } J v vd (X.set (A * 2) (.pointer none)) := by
  have h2 := h.hold.objSet 2 h.row (A * 2) (.pointer none)
  have hxl := h.xl
  refine ⟨h2, by rw [List.getElem?_set_ne (by omega)]; exact h.mem, by rw [List.getElem?_set_ne (by omega)]; exact h.obj, List.getElem?_set_self (List.getElem?_eq_some_iff.1 h.row).1, by rw [List.getElem?_set_ne (by omega)]; exact h.deeds, h.hT, by rw [List.length_set]; exact hxl, by show (Y.ts.set A _).length = _; rw [List.length_set]; exact h.tl, fun k hk => ?_, fun k T j hk => ?_, fun k k' a a' hk hk' hne => ?_⟩
  · rcases yset hk with ⟨rfl, _, _⟩ | ⟨hne, hk⟩
    · exact List.getElem?_set_self (by omega)
    · rw [List.getElem?_set_ne (by omega)]
      exact h.idle k hk
  · rcases yset hk with ⟨rfl, he, _⟩ | ⟨hne, hk⟩
    · cases he
    · obtain ⟨y', a, b, c, d, f⟩ := h.busy k T j hk
      exact ⟨y', by rw [List.getElem?_set_ne (by omega)]; exact a, by rw [List.getElem?_set_ne (by omega)]; exact b, c, by rw [List.getElem?_set_ne (by omega)]; exact d, f⟩
  · rcases yset hk with ⟨_, he, _⟩ | ⟨_, hk⟩
    · cases he
    · rcases yset hk' with ⟨_, he, _⟩ | ⟨_, hk'⟩
      · cases he
      · exact h.inj k k' a a' hk hk' hne
/-- A thread's task went on. -/
theorem YAt.gone (h : YAt W w l B Y J v vd X) {A i : Nat} {T T' : Wk} {y y' : WT} {v' : Value} {C' : List Int} {L' : List Ev} (hw : Y.ts[A]? = some (some (T, i))) (hj : l[J A]? = some (wT W.heap.size y)) (hy : y'.b = y.b) (hT : y'.T = T') (hX : X[A * 2]? = some (pt y.b))
    (h1 : Hold W w' ((l.set 0 (tMem W.heap.size B.p B.c v' C' L')).set (J A) (wT W.heap.size y'))) :
    YAt W w' ((l.set 0 (tMem W.heap.size B.p B.c v' C' L')).set (J A) (wT W.heap.size y')) B { Y with C := C', L := L', ts := Y.ts.set A (some (T', i)) } J v' vd X := by
  obtain ⟨y0, a0, b0, c0, d0, f0⟩ := h.busy A T i hw
  have hA : A < Y.ts.length := (List.getElem?_eq_some_iff.1 hw).1
  refine ⟨h1, by rw [List.getElem?_set_ne (by omega)]; exact List.getElem?_set_self (List.getElem?_eq_some_iff.1 h.mem).1, by rw [List.getElem?_set_ne (by omega), List.getElem?_set_ne (by omega)]; exact h.obj, by rw [List.getElem?_set_ne (by omega), List.getElem?_set_ne (by omega)]; exact h.row, by rw [List.getElem?_set_ne (by omega), List.getElem?_set_ne (by omega)]; exact h.deeds, h.hT, h.xl, by show (Y.ts.set A _).length = _; rw [List.length_set]; exact h.tl, fun k hk => ?_, fun k T2 j hk => ?_, fun k k' a a' hk hk' hne => ?_⟩
  · rcases yset hk with ⟨_, he, _⟩ | ⟨_, hk⟩
    · cases he
    · exact h.idle k hk
  · rcases yset hk with ⟨rfl, he, _⟩ | ⟨hne, hk⟩
    · cases he
      exact ⟨y', by rw [hy]; exact hX, b0, c0, List.getElem?_set_self (by rw [List.length_set]; exact (List.getElem?_eq_some_iff.1 hj).1), hT⟩
    · obtain ⟨y2, a, b, c, d, f⟩ := h.busy k T2 j hk
      have := h.inj k A _ _ hk hw (fun e => hne e.symm)
      exact ⟨y2, a, b, c, by rw [List.getElem?_set_ne (by omega), List.getElem?_set_ne (by omega)]; exact d, f⟩
  · have back : ∀ q b, (Y.ts.set A (some (T', i)))[q]? = some (some b) → ∃ b', Y.ts[q]? = some (some b') := fun q b hq => by
      rcases yset hq with ⟨rfl, _, _⟩ | ⟨_, hq⟩
      · exact ⟨_, hw⟩
      · exact ⟨_, hq⟩
    obtain ⟨b, hb⟩ := back k a hk
    obtain ⟨b', hb'⟩ := back k' a' hk'
    exact h.inj k k' b b' hb hb' hne
/-- A deed is turned: five of its cells. -/
theorem YAt.setDeed (h : YAt W w l B Y J v vd X) {i g cap : Nat} {dd dd' : Dd} (hv : vd = .slice (some ⟨g, 0, none⟩) Y.ds.length cap) (hd : Y.ds[i]? = some dd) (hs : dd' = { dd with till := dd'.till, ok := dd'.ok, v := dd'.v, lo := dd'.lo, hi := dd'.hi }) :
    ∃ l', YAt W (((((w.setCell ⟨g, i * 11 + 6, none⟩ (i64 dd'.till)).setCell ⟨g, i * 11 + 7, none⟩ (.bool dd'.ok)).setCell ⟨g, i * 11 + 8, none⟩ (u64 dd'.v)).setCell ⟨g, i * 11 + 9, none⟩ (i64 dd'.lo)).setCell ⟨g, i * 11 + 10, none⟩ (i64 dd'.hi)) l' B { Y with ds := Y.ds.set i dd' } J v vd X ∧ l'.length = l.length ∧ ∀ j A, 4 ≤ j → l[j]? = some A → l'[j]? = some A := by
  subst hv
  have hd3 := (List.getElem?_eq_some_iff.1 h.deeds).1
  have h1 := h.hold.rowSet 3 h.deeds (i * 11 + 6) (i64 dd'.till)
  have h2 := h1.rowSet 3 (List.getElem?_set_self hd3) (i * 11 + 7) (.bool dd'.ok)
  rw [List.set_set] at h2
  have h3 := h2.rowSet 3 (List.getElem?_set_self hd3) (i * 11 + 8) (u64 dd'.v)
  rw [List.set_set] at h3
  have h4 := h3.rowSet 3 (List.getElem?_set_self hd3) (i * 11 + 9) (i64 dd'.lo)
  rw [List.set_set] at h4
  have h5 := h4.rowSet 3 (List.getElem?_set_self hd3) (i * 11 + 10) (i64 dd'.hi)
  rw [List.set_set] at h5
  have hf : (((((flatD Y.ds).set (i * 11 + 6) (i64 dd'.till)).set (i * 11 + 7) (.bool dd'.ok)).set (i * 11 + 8) (u64 dd'.v)).set (i * 11 + 9) (i64 dd'.lo)).set (i * 11 + 10) (i64 dd'.hi) = flatD (Y.ds.set i dd') :=
    flatD_set [(6, i64 dd'.till), (7, .bool dd'.ok), (8, u64 dd'.v), (9, i64 dd'.lo), (10, i64 dd'.hi)] hd (fun a ha => by
      simp only [List.mem_cons, List.not_mem_nil, or_false] at ha
      rcases ha with rfl | rfl | rfl | rfl | rfl <;> simp) (by rw [hs]; rfl)
  rw [hf] at h5
  refine ⟨_, ⟨h5, by rw [List.getElem?_set_ne (by omega)]; exact h.mem, ?_, by rw [List.getElem?_set_ne (by omega)]; exact h.row, ?_, h.hT, h.xl, h.tl, h.idle, fun k T j hk => ?_, h.inj⟩, List.length_set, fun j A hj hA => by rw [List.getElem?_set_ne (by omega)]; exact hA⟩
  · rw [List.getElem?_set_ne (by omega)]
    exact h.obj
  · rw [List.getElem?_set_self hd3]
    show some (tRow _ _ _ _ _ _) = some (tRow _ _ _ _ (Y.ds.set i dd').length (flatD (Y.ds.set i dd')))
    rw [List.length_set]
  · obtain ⟨y', a, b, c, d, f⟩ := h.busy k T j hk
    exact ⟨y', a, b, c, by rw [List.getElem?_set_ne (by omega)]; exact d, f⟩
end

end Go.Proofs.YtpfjommkjkbonaaGreat
