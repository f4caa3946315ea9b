/-
  Books over a second memory that lie beside a yard: cells, a row of tasks, each thread's deed, the deeds; and what is done to them. No condition.
-/
import Derived.Test.YthlmekkijknooaaGreatYardDeeds
namespace Go.Proofs.YthlmekkijknooaaGreat
open Go.RowKit
set_option linter.unusedVariables false

/-- Where the books lie. -/
structure SB where
  p : Nat
  c : Nat
  tb : Nat
  mb : Nat
/-- Books that lie in places 4 to 7 and behind, beside a yard. -/
structure Sd (base : Nat) (l : List Thing) (Y : Yd) (J : Nat → Nat) (S : SB) (T : Nat) (Z : Yd) (K : Nat → Nat) (v vd : Value) (X M : List Value) : Prop where
  mem : l[4]? = some (tMem base S.p S.c v Z.C Z.L)
  row : l[5]? = some (tObj base S.tb X)
  mine : l[6]? = some (tObj base S.mb M)
  deeds : l[7]? = some (tRow base 55 11 vd Z.ds.length (flatD Z.ds))
  free : ∀ j, 4 ≤ j → j < 8 → YFree Y J j
  xl : X.length = T
  ml : M.length = T
  tl : Z.ts.length = T
  idle : ∀ (k : Nat), Z.ts[k]? = some none → X[k]? = some (.pointer none)
  busy : ∀ (k : Nat) (T : Wk) (i : Nat), Z.ts[k]? = some (some (T, i)) → ∃ y, X[k]? = some (pt y.b) ∧ M[k]? = some (i64 i) ∧ 8 ≤ K k ∧ l[K k]? = some (wT base y) ∧ YFree Y J (K k) ∧ y.T = T
  inj : ∀ (k k' : Nat) (a a' : Wk × Nat), Z.ts[k]? = some (some a) → Z.ts[k']? = some (some a') → k ≠ k' → K k ≠ K k'

section
variable {base : Nat} {W w w' : World} {l l' : List Thing} {B : YB} {Y Y' Z : Yd} {J J' K : Nat → Nat} {S : SB} {T n N : Nat} {v vd : Value} {X M : List Value}

theorem Sd.len (h : Sd base l Y J S T Z K v vd X M) : 8 ≤ l.length := (List.getElem?_eq_some_iff.1 h.deeds).1
/-- What the yard does turns nothing of them. -/
theorem Sd.go (h : Sd base l Y J S T Z K v vd X M) (g : YGo Y Y' l l' J J') : Sd base l' Y' J' S T Z K v vd X M := by
  have h8 := h.len
  have fr := fun j a b => g.free j (by omega) (h.free j a b)
  refine ⟨g.keep _ _ h.mem (h.free 4 (by omega) (by omega)), g.keep _ _ h.row (h.free 5 (by omega) (by omega)), g.keep _ _ h.mine (h.free 6 (by omega) (by omega)), g.keep _ _ h.deeds (h.free 7 (by omega) (by omega)), fr, h.xl, h.ml, h.tl, h.idle, fun k T' i hk => ?_, h.inj⟩
  obtain ⟨y, a, b, c, d, e, f⟩ := h.busy k T' i hk
  exact ⟨y, a, b, c, g.keep _ _ d e, g.free _ (List.getElem?_eq_some_iff.1 d).1 e, f⟩
theorem YdL.side (h : YdL W w l B N Y J n) (hl : Hold W w' l') (hk : ∀ j A, l[j]? = some A → ¬ YFree Y J j → l'[j]? = some A) : YdL W w' l' B N Y J n :=
  ⟨h.h.other hl hk, h.ok, h.len, h.cf, h.hT⟩

/-- A yard and the books beside it. -/
structure Tw (W w : World) (l : List Thing) (B : YB) (N : Nat) (Y : Yd) (J : Nat → Nat) (n : Nat) (S : SB) (Z : Yd) (K : Nat → Nat) (v vd : Value) (X M : List Value) : Prop where
  yd : YdL W w l B N Y J n
  sd : Sd W.heap.size l Y J S B.T Z K v vd X M

theorem Tw.later (h : Tw W w l B N Y J n S Z K v vd X M) (e : Below w.heap.size w w') : Tw W w' l B N Y J n S Z K v vd X M := ⟨h.yd.later e, h.sd⟩
theorem Tw.drew (h : Tw W w l B N Y J n S Z K v vd X M) : Tw W w.drew l B N Y J n S Z K v vd X M := h.later (Below.refl _ _).drew
theorem Tw.hold (h : Tw W w l B N Y J n S Z K v vd X M) : Hold W w l := h.yd.h.hold
theorem Tw.below (h : Tw W w l B N Y J n S Z K v vd X M) : Below W.heap.size W w := h.hold.below
theorem Tw.memAt (h : Tw W w l B N Y J n S Z K v vd X M) : IsMem W.heap.size w S.p S.c v Z.C Z.L := h.hold.has 4 _ h.sd.mem
theorem Tw.rowAt (h : Tw W w l B N Y J n S Z K v vd X M) : IsObj w S.tb X := (h.hold.has 5 _ h.sd.row).1
theorem Tw.mineAt (h : Tw W w l B N Y J n S Z K v vd X M) : IsObj w S.mb M := (h.hold.has 6 _ h.sd.mine).1
theorem Tw.own (h : Tw W w l B N Y J n S Z K v vd X M) : w.ownsRow W.heap.size 55 11 vd Z.ds.length (flatD Z.ds) := h.hold.has 7 _ h.sd.deeds
theorem Tw.ne56 (h : Tw W w l B N Y J n S Z K v vd X M) : S.tb ≠ S.mb := fun e => h.hold.apart 5 6 _ _ h.sd.row h.sd.mine (by omega) S.tb rfl e
theorem Tw.dne (h : Tw W w l B N Y J n S Z K v vd X M) : vd.ownBlock ≠ some S.tb ∧ vd.ownBlock ≠ some S.mb := ⟨fun e => h.hold.apart 5 7 _ _ h.sd.row h.sd.deeds (by omega) S.tb rfl e, fun e => h.hold.apart 6 7 _ _ h.sd.mine h.sd.deeds (by omega) S.mb rfl e⟩
/-- The yard goes on. -/
theorem Tw.go {n' : Nat} (h : Tw W w l B N Y J n S Z K v vd X M) (hy : YdL W w' l' B N Y' J' n') (g : YGo Y Y' l l' J J') : Tw W w' l' B N Y' J' n' S Z K v vd X M := ⟨hy, h.sd.go g⟩
/-- One of the four is turned. -/
theorem set_free {j : Nat} {A : Thing} (hj : YFree Y J j) : ∀ i A', l[i]? = some A' → ¬ YFree Y J i → (l.set j A)[i]? = some A' := fun i A' hi hf => by
  rw [List.getElem?_set_ne (fun (e : j = i) => hf (by rw [← e]; exact hj))]
  exact hi

/-- A thread has none any more. -/
theorem Tw.end (h : Tw W w l B N Y J n S Z K v vd X M) {A : Nat} (hA : A < B.T) :
    Tw W (w.setCell ⟨S.tb, A, none⟩ (.pointer none)) (l.set 5 (tObj W.heap.size S.tb (X.set A (.pointer none)))) B N Y J n S { Z with ts := Z.ts.set A none } K v vd (X.set A (.pointer none)) M := by
  have s := h.sd
  have h2 := h.hold.objSet 5 s.row A (.pointer none)
  have hxl := s.xl
  refine ⟨h.yd.side h2 (set_free (s.free 5 (by omega) (by omega))), by rw [List.getElem?_set_ne (by omega)]; exact s.mem, List.getElem?_set_self (List.getElem?_eq_some_iff.1 s.row).1, by rw [List.getElem?_set_ne (by omega)]; exact s.mine, by rw [List.getElem?_set_ne (by omega)]; exact s.deeds, s.free, by rw [List.length_set]; exact hxl, s.ml, by show (Z.ts.set A _).length = _; rw [List.length_set]; exact s.tl, fun k hk => ?_, fun k T i hk => ?_, fun k k' a a' hk hk' hne => ?_⟩
  · rcases yset hk with ⟨rfl, _, _⟩ | ⟨hne, hk⟩
    · exact List.getElem?_set_self (by omega)
    · rw [List.getElem?_set_ne hne]
      exact s.idle k hk
  · rcases yset hk with ⟨rfl, he, _⟩ | ⟨hne, hk⟩
    · cases he
    · obtain ⟨y', a, b, c, d, e, f⟩ := s.busy k T i hk
      exact ⟨y', by rw [List.getElem?_set_ne hne]; exact a, b, c, by rw [List.getElem?_set_ne (by omega)]; exact d, e, f⟩
  · rcases yset hk with ⟨_, he, _⟩ | ⟨_, hk⟩
    · cases he
    · rcases yset hk' with ⟨_, he, _⟩ | ⟨_, hk'⟩
      · cases he
      · exact s.inj k k' a a' hk hk' hne
/-- A thread has a new task. -/
theorem Tw.begin (h : Tw W w l B N Y J n S Z K v vd X M) {A : Nat} {w1 : World} {y : WT} {i : Nat} (hw : Z.ts[A]? = some none) (h1 : Hold W w1 (l ++ [wT W.heap.size y])) :
    Tw W ((w1.setCell ⟨S.tb, A, none⟩ (pt y.b)).setCell ⟨S.mb, A, none⟩ (i64 i)) (((l ++ [wT W.heap.size y]).set 5 (tObj W.heap.size S.tb (X.set A (pt y.b)))).set 6 (tObj W.heap.size S.mb (M.set A (i64 i)))) B N Y J n S { Z with ts := Z.ts.set A (some (y.T, i)) } (fun k => if k = A then l.length else K k) v vd (X.set A (pt y.b)) (M.set A (i64 i)) := by
  have s := h.sd
  have h8 := s.len
  have up : ∀ {j : Nat} {A' : Thing}, l[j]? = some A' → (l ++ [wT W.heap.size y])[j]? = some A' := fun hi => by rw [List.getElem?_append_left (List.getElem?_eq_some_iff.1 hi).1]; exact hi
  have hA : A < B.T := by have := (List.getElem?_eq_some_iff.1 hw).1; have := s.tl; omega
  have h2 := h1.objSet 5 (up s.row) A (pt y.b)
  have h3 := h2.objSet 6 (b := S.mb) (xs := M) (by rw [List.getElem?_set_ne (by omega)]; exact up s.mine) A (i64 i)
  have hxl := s.xl
  have hml := s.ml
  have nf := h.yd.h.newFree
  refine ⟨h.yd.side h3 (fun j A' hj hf => ?_), ?_, ?_, ?_, ?_, s.free, by rw [List.length_set]; exact hxl, by rw [List.length_set]; exact hml, by show (Z.ts.set A _).length = _; rw [List.length_set]; exact s.tl, fun k hk => ?_, fun k T j hk => ?_, fun k k' a a' hk hk' hne => ?_⟩
  · rw [List.getElem?_set_ne (fun (e : 6 = j) => hf (by rw [← e]; exact s.free 6 (by omega) (by omega))), List.getElem?_set_ne (fun (e : 5 = j) => hf (by rw [← e]; exact s.free 5 (by omega) (by omega)))]
    exact up hj
  · rw [List.getElem?_set_ne (by omega), List.getElem?_set_ne (by omega)]
    exact up s.mem
  · rw [List.getElem?_set_ne (by omega)]
    exact List.getElem?_set_self (List.getElem?_eq_some_iff.1 (up s.row)).1
  · exact List.getElem?_set_self (by rw [List.length_set]; exact (List.getElem?_eq_some_iff.1 (up s.mine)).1)
  · rw [List.getElem?_set_ne (by omega), List.getElem?_set_ne (by omega)]
    exact up s.deeds
  · rcases yset hk with ⟨_, he, _⟩ | ⟨hne, hk⟩
    · cases he
    · rw [List.getElem?_set_ne hne]
      exact s.idle k hk
  · rcases yset hk with ⟨rfl, he, _⟩ | ⟨hne, hk⟩
    · cases he
      refine ⟨y, List.getElem?_set_self (by omega), List.getElem?_set_self (by omega), by simp only [if_true]; exact h8, ?_, by simp only [if_true]; exact nf, rfl⟩
      simp only [if_true]
      rw [List.getElem?_set_ne (by omega), List.getElem?_set_ne (by omega), List.getElem?_append_right (Nat.le_refl _), Nat.sub_self]
      rfl
    · obtain ⟨y', a, b, c, d, e, f⟩ := s.busy k T j hk
      have hk2 : ¬ k = A := fun e => hne e.symm
      refine ⟨y', by rw [List.getElem?_set_ne hne]; exact a, by rw [List.getElem?_set_ne hne]; exact b, by simp only [hk2, if_false]; exact c, ?_, by simp only [hk2, if_false]; exact e, f⟩
      simp only [hk2, if_false]
      rw [List.getElem?_set_ne (by omega), List.getElem?_set_ne (by omega)]
      exact up d
  · have lt : ∀ k a, k ≠ A → (Z.ts.set A (some (y.T, i)))[k]? = some (some a) → K k < l.length := fun k a hn hk => by
      rcases yset hk with ⟨e, _, _⟩ | ⟨_, hk⟩
      · exact absurd e.symm hn
      · obtain ⟨y', _, _, _, d, _⟩ := s.busy k a.1 a.2 hk
        exact (List.getElem?_eq_some_iff.1 d).1
    by_cases e : k = A
    · have e' : ¬ k' = A := fun e' => hne (e.trans e'.symm)
      have := lt k' a' e' hk'
      simp only [e, e', if_true, if_false]
      omega
    · by_cases e' : k' = A
      · have := lt k a e hk
        simp only [e, e', if_true, if_false]
        omega
      · simp only [e, e', if_false]
        rcases yset hk with ⟨x, _, _⟩ | ⟨_, hk⟩
        · exact absurd x.symm e
        · rcases yset hk' with ⟨x, _, _⟩ | ⟨_, hk'⟩
          · exact absurd x.symm e'
          · exact s.inj k k' a a' hk hk' hne
/-- One more deed. -/
theorem Tw.addDeed (h : Tw W w l B N Y J n S Z K v vd X M) {w1 : World} {vd' : Value} (dd : Dd) (hG : Grew w w1 W.heap.size 55 11 vd vd' (Z.ds.length + 1) (flatD Z.ds ++ dd.list)) :
    Tw W w1 (l.set 7 (tRow W.heap.size 55 11 vd' (Z.ds.length + 1) (flatD Z.ds ++ dd.list))) B N Y J n S { Z with ds := Z.ds ++ [dd] } K v vd' X M := by
  have s := h.sd
  have h1 := h.hold.append 7 rfl s.deeds hG
  refine ⟨h.yd.side h1 (set_free (s.free 7 (by omega) (by omega))), by rw [List.getElem?_set_ne (by omega)]; exact s.mem, by rw [List.getElem?_set_ne (by omega)]; exact s.row, by rw [List.getElem?_set_ne (by omega)]; exact s.mine, ?_, s.free, s.xl, s.ml, s.tl, s.idle, fun k T i hk => ?_, s.inj⟩
  · rw [List.getElem?_set_self (List.getElem?_eq_some_iff.1 s.deeds).1]
    show some (tRow _ _ _ _ _ _) = some (tRow _ _ _ _ (Z.ds ++ [dd]).length (flatD (Z.ds ++ [dd])))
    rw [List.length_append, List.length_singleton, flatD_append]
    simp [flatD]
  · obtain ⟨y, a, b, c, d, f⟩ := s.busy k T i hk
    exact ⟨y, a, b, c, by rw [List.getElem?_set_ne (by omega)]; exact d, f⟩
/-- A thread's task went on. -/
theorem Tw.gone (h : Tw W w l B N Y J n S Z K v vd X M) {A i : Nat} {T T' : Wk} {y y' : WT} {v' : Value} {C' : List Int} {L' : List Ev} (hw : Z.ts[A]? = some (some (T, i))) (hj : l[K A]? = some (wT W.heap.size y)) (hy : y'.b = y.b) (hT : y'.T = T') (hX : X[A]? = some (pt y.b))
    (h1 : Hold W w' ((l.set 4 (tMem W.heap.size S.p S.c v' C' L')).set (K A) (wT W.heap.size y'))) :
    Tw W w' ((l.set 4 (tMem W.heap.size S.p S.c v' C' L')).set (K A) (wT W.heap.size y')) B N Y J n S { Z with C := C', L := L', ts := Z.ts.set A (some (T', i)) } K v' vd X M := by
  have s := h.sd
  have h8 := s.len
  obtain ⟨y0, a0, b0, c0, d0, e0, f0⟩ := s.busy A T i hw
  have hA : A < Z.ts.length := (List.getElem?_eq_some_iff.1 hw).1
  refine ⟨h.yd.side h1 (fun j A' hj' hf => ?_), by rw [List.getElem?_set_ne (by omega)]; exact List.getElem?_set_self (by omega), by rw [List.getElem?_set_ne (by omega), List.getElem?_set_ne (by omega)]; exact s.row, by rw [List.getElem?_set_ne (by omega), List.getElem?_set_ne (by omega)]; exact s.mine, by rw [List.getElem?_set_ne (by omega), List.getElem?_set_ne (by omega)]; exact s.deeds, s.free, s.xl, s.ml, by show (Z.ts.set A _).length = _; rw [List.length_set]; exact s.tl, fun k hk => ?_, fun k T2 j hk => ?_, fun k k' a a' hk hk' hne => ?_⟩
  · rw [List.getElem?_set_ne (fun (e : K A = j) => hf (by rw [← e]; exact e0)), List.getElem?_set_ne (fun (e : 4 = j) => hf (by rw [← e]; exact s.free 4 (by omega) (by omega)))]
    exact hj'
  · rcases yset hk with ⟨_, he, _⟩ | ⟨hne, hk⟩
    · cases he
    · exact s.idle k hk
  · rcases yset hk with ⟨rfl, he, _⟩ | ⟨hne, hk⟩
    · cases he
      exact ⟨y', by rw [hy]; exact hX, b0, c0, List.getElem?_set_self (by rw [List.length_set]; exact (List.getElem?_eq_some_iff.1 hj).1), e0, hT⟩
    · obtain ⟨y2, a, b, c, d, e, f⟩ := s.busy k T2 j hk
      have := s.inj k A _ _ hk hw (fun e => hne e.symm)
      exact ⟨y2, a, b, c, by rw [List.getElem?_set_ne (by omega), List.getElem?_set_ne (by omega)]; exact d, e, f⟩
  · have back : ∀ q b, (Z.ts.set A (some (T', i)))[q]? = some (some b) → ∃ b', Z.ts[q]? = some (some b') := fun q b hq => by
      rcases yset hq with ⟨rfl, _, _⟩ | ⟨_, hq⟩
      · exact ⟨_, hw⟩
      · exact ⟨_, hq⟩
    obtain ⟨b, hb⟩ := back k a hk
    obtain ⟨b', hb'⟩ := back k' a' hk'
    exact s.inj k k' b b' hb hb' hne
/-- A cell of a deed is turned, or several. -/
theorem Tw.setTill (h : Tw W w l B N Y J n S Z K v vd X M) {i g cap : Nat} {dd : Dd} (m : Int) (hv : vd = .slice (some ⟨g, 0, none⟩) Z.ds.length cap) (hd : Z.ds[i]? = some dd) :
    ∃ l', Tw W (w.setCell ⟨g, i * 11 + 6, none⟩ (i64 m)) l' B N Y J n S { Z with ds := Z.ds.set i { dd with till := m } } K v vd X M ∧ ∀ j A, j ≠ 7 → l[j]? = some A → l'[j]? = some A := by
  subst hv
  have s := h.sd
  have hd3 := (List.getElem?_eq_some_iff.1 s.deeds).1
  have h1 := h.hold.rowSet 7 s.deeds (i * 11 + 6) (i64 m)
  have hf : (flatD Z.ds).set (i * 11 + 6) (i64 m) = flatD (Z.ds.set i { dd with till := m }) :=
    flatD_set [(6, i64 m)] hd (fun a ha => by
      simp only [List.mem_cons, List.not_mem_nil, or_false] at ha
      rcases ha with rfl
      simp) rfl
  rw [hf] at h1
  refine ⟨_, ⟨h.yd.side h1 (set_free (s.free 7 (by omega) (by omega))), by rw [List.getElem?_set_ne (by omega)]; exact s.mem, by rw [List.getElem?_set_ne (by omega)]; exact s.row, by rw [List.getElem?_set_ne (by omega)]; exact s.mine, ?_, s.free, s.xl, s.ml, s.tl, s.idle, fun k T i hk => ?_, s.inj⟩, fun j A hj hA => by rw [List.getElem?_set_ne (by omega)]; exact hA⟩
  · rw [List.getElem?_set_self hd3]
    show some (tRow _ _ _ _ _ _) = some (tRow _ _ _ _ (Z.ds.set i { dd with till := m }).length (flatD (Z.ds.set i { dd with till := m })))
    rw [List.length_set]
  · obtain ⟨y, a, b, c, d, f⟩ := s.busy k T i hk
    exact ⟨y, a, b, c, by rw [List.getElem?_set_ne (by omega)]; exact d, f⟩
theorem Tw.setReply (h : Tw W w l B N Y J n S Z K v vd X M) {i g cap : Nat} {dd dd' : Dd} (hv : vd = .slice (some ⟨g, 0, none⟩) Z.ds.length cap) (hd : Z.ds[i]? = some dd) (hs : dd' = { dd with ok := dd'.ok, v := dd'.v, lo := dd'.lo, hi := dd'.hi }) :
    ∃ l', Tw W ((((w.setCell ⟨g, i * 11 + 7, none⟩ (.bool dd'.ok)).setCell ⟨g, i * 11 + 8, none⟩ (u64 dd'.v)).setCell ⟨g, i * 11 + 9, none⟩ (i64 dd'.lo)).setCell ⟨g, i * 11 + 10, none⟩ (i64 dd'.hi)) l' B N Y J n S { Z with ds := Z.ds.set i dd' } K v vd X M ∧ ∀ j A, j ≠ 7 → l[j]? = some A → l'[j]? = some A := by
  subst hv
  have s := h.sd
  have hd3 := (List.getElem?_eq_some_iff.1 s.deeds).1
  have h2 := h.hold.rowSet 7 s.deeds (i * 11 + 7) (.bool dd'.ok)
  have h3 := h2.rowSet 7 (List.getElem?_set_self hd3) (i * 11 + 8) (u64 dd'.v)
  rw [List.set_set] at h3
  have h4 := h3.rowSet 7 (List.getElem?_set_self hd3) (i * 11 + 9) (i64 dd'.lo)
  rw [List.set_set] at h4
  have h5 := h4.rowSet 7 (List.getElem?_set_self hd3) (i * 11 + 10) (i64 dd'.hi)
  rw [List.set_set] at h5
  have hf : ((((flatD Z.ds).set (i * 11 + 7) (.bool dd'.ok)).set (i * 11 + 8) (u64 dd'.v)).set (i * 11 + 9) (i64 dd'.lo)).set (i * 11 + 10) (i64 dd'.hi) = flatD (Z.ds.set i dd') :=
    flatD_set [(7, .bool dd'.ok), (8, u64 dd'.v), (9, i64 dd'.lo), (10, i64 dd'.hi)] hd (fun a ha => by
      simp only [List.mem_cons, List.not_mem_nil, or_false] at ha
      rcases ha with rfl | rfl | rfl | rfl <;> simp) (by rw [hs]; rfl)
  rw [hf] at h5
  refine ⟨_, ⟨h.yd.side h5 (set_free (s.free 7 (by omega) (by omega))), by rw [List.getElem?_set_ne (by omega)]; exact s.mem, by rw [List.getElem?_set_ne (by omega)]; exact s.row, by rw [List.getElem?_set_ne (by omega)]; exact s.mine, ?_, s.free, s.xl, s.ml, s.tl, s.idle, fun k T i hk => ?_, s.inj⟩, fun j A hj hA => by rw [List.getElem?_set_ne (by omega)]; exact hA⟩
  · rw [List.getElem?_set_self hd3]
    show some (tRow _ _ _ _ _ _) = some (tRow _ _ _ _ (Z.ds.set i dd').length (flatD (Z.ds.set i dd')))
    rw [List.length_set]
  · obtain ⟨y, a, b, c, d, f⟩ := s.busy k T i hk
    exact ⟨y, a, b, c, by rw [List.getElem?_set_ne (by omega)]; exact d, f⟩
end

end Go.Proofs.YthlmekkijknooaaGreat
