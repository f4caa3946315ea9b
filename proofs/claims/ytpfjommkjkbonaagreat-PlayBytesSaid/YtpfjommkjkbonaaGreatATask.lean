/-
  A get beside a snap and a take of the law's own, over two memories that are alike: what a step of the parts comes to. No condition.
  Contracts of package task: which calls are right; a task that puts: one that is begun, what it was asked for, how far it is, a step, its reply; what a call holds that has cells and such a task. No condition but that numbers fit their kinds.
  Contracts of package task: a task that gets: one that is begun, how far it is, a step, its reply; what a call holds that has cells and such a task. No condition but that numbers fit their kinds.
  What the laws on tasks have in common: a call that has begun a task; the document's example. No condition.
  A task of either kind, as data: a step of it, its reply, what may be in it; what a call holds that has cells and a task, with the contracts of all that is done with it; a task that is done while nobody else does anything. No condition.
  Many tasks at once: a task as one thing that a call holds, with the contracts of what is done with it; tasks of several threads over the same cells, as data: what is right stays right, whoever steps. No condition.
  What a step of a task notes: nothing, and no cell is turned; or one event of its own thread, that tells just what comes of one cell. No Go. No condition.
-/
import Derived.Test.YtpfjommkjkbonaaGreatAGet
import Derived.Test.YtpfjommkjkbonaaGreatAPut
import Derived.Handy
import Derived.KernelRfl
namespace Go.Proofs.YtpfjommkjkbonaaGreat
section
open Go.RowKit
set_option linter.unusedVariables false

/-- A list of events lies at A. -/
def GAtE (w : World) (A : Option Addr) (L : List Ev) : Prop :=
  L ≠ [] → ∃ b o, A = some ⟨b, o, none⟩ ∧ b < w.heap.size ∧ ∀ i e, L[i]? = some e → w.cell? ⟨b, o + i * 6, none⟩ = some (i64 e.who) ∧ w.cell? ⟨b, o + i * 6 + 1, none⟩ = some (i64 e.op) ∧ w.cell? ⟨b, o + i * 6 + 2, none⟩ = some (i64 e.cell) ∧
    w.cell? ⟨b, o + i * 6 + 3, none⟩ = some (u64 e.old) ∧ w.cell? ⟨b, o + i * 6 + 4, none⟩ = some (u64 e.new) ∧ w.cell? ⟨b, o + i * 6 + 5, none⟩ = some (.bool e.ok)

theorem gflatE_at : ∀ (L : List Ev) (i : Nat) (e : Ev), L[i]? = some e → ∀ j u, e.cells[j]? = some u → (flatE L)[i * 6 + j]? = some u
  | [], i, e, h, _, _, _ => by simp at h
  | f :: L, 0, e, h, j, u, hj => by
    simp only [List.getElem?_cons_zero, Option.some.injEq] at h
    subst h
    have hl : j < f.cells.length := (List.getElem?_eq_some_iff.1 hj).1
    rw [flatE, Nat.zero_mul, Nat.zero_add, List.getElem?_append_left hl]
    exact hj
  | f :: L, i + 1, e, h, j, u, hj => by
    have ih := gflatE_at L i e (by simpa using h) j u hj
    have hl : f.cells.length = 6 := rfl
    rw [flatE, List.getElem?_append_right (by omega), hl, show (i + 1) * 6 + j - 6 = i * 6 + j by omega]
    exact ih

/-- An own row of events. -/
theorem GAtE.row {w : World} {base : Nat} {A : Option Addr} {cap : Nat} {L : List Ev} (h : w.ownsRow base 94 6 (.slice A L.length cap) L.length (flatE L)) : GAtE w A L := fun hne => by
  rcases h.2 with ⟨_, h0⟩ | ⟨g, cap', cur, hv, hg, hh, _⟩
  · exact absurd (List.eq_nil_of_length_eq_zero h0) hne
  · cases hv
    refine ⟨g, 0, rfl, (h.lt g rfl).2, fun i e he => ?_⟩
    have hi := (List.getElem?_eq_some_iff.1 he).1
    have k : ∀ j u, e.cells[j]? = some u → w.cell? ⟨g, 0 + i * 6 + j, none⟩ = some u := fun j u hj => by
      have hjl : j < e.cells.length := (List.getElem?_eq_some_iff.1 hj).1
      have hjl' : e.cells.length = 6 := rfl
      rw [show 0 + i * 6 + j = i * 6 + j by omega, h.cellAt (i * 6 + j) (by omega)]
      exact gflatE_at L i e he j u hj
    exact ⟨k 0 _ rfl, k 1 _ rfl, k 2 _ rfl, k 3 _ rfl, k 4 _ rfl, k 5 _ rfl⟩

section
variable {k : Ge} {N hz : Nat} {C : List Int} {z z' : Int}
/-- What comes of a step doesn't hang on how it was asked. -/
theorem Ge.step_one (hk : k.Ok N hz C) (hf : ∀ j, 0 ≤ C.getD j 0 ∧ C.getD j 0 ≤ 18446744073709551615) (h : k.ask C z) (h' : k.ask C z') : k.step N hz C z = k.step N hz C z' := by
  by_cases hp : k.ph = 0
  · cases hta : k.ta with
    | some a =>
      unfold Ge.step
      rw [if_neg (by omega), if_neg (by omega), hta]
    | none =>
      by_cases hd : (k.sn.step C).ph = 1
      · have h1 := h hp hta hd
        have h2 := h' hp hta hd
        have hx := step_X (k := k.sn) (C := C) hk.sX hf
        obtain ⟨s1, s2⟩ := hk.sn hp hta
        have hn2 := hk.lay.n2
        have hp1 : (k.sn.X.set k.sn.slot (C.getD k.sn.slot 0)).length = k.sn.N := by rw [List.length_set]; exact s1.X
        have hl : (k.sn.step C).X.length = k.sn.N := by
          unfold Sn.step
          rw [if_pos s2]
          split
          · exact hp1
          · exact hp1
        have hN := s1.N
        rw [end_unique hx.2 (by omega) h1 h2]
      · have e : ∀ y, k.step N hz C y = { k with sn := k.sn.step C } := fun y => by
          have e1 : k.step N hz C y = k.read (k.sn.step C) y := by unfold Ge.step; rw [if_neg (by omega), hta]
          rw [e1]
          unfold Ge.read
          rw [if_pos hd]
        rw [e, e]
  · rw [show k.step N hz C z = k from if_pos hp, show k.step N hz C z' = k from if_pos hp]

/-- The parts of a step. -/
theorem st_rest (hp : k.ph ≠ 0) : k.ask C 0 ∧ k.step N hz C 0 = k ∧ k.cells N hz C = C ∧ k.ev N hz C = [] := ⟨fun h => absurd h hp, if_pos hp, if_pos hp, if_pos hp⟩
theorem st_more (hp : k.ph = 0) (ht : k.ta = none) (hd : (k.sn.step C).ph ≠ 1) : k.ask C 0 ∧ k.step N hz C 0 = { k with sn := k.sn.step C } ∧ k.cells N hz C = C ∧ k.ev N hz C = k.sn.ev C := by
  refine ⟨fun _ _ h => absurd h hd, ?_, ?_, ?_⟩
  · have e1 : k.step N hz C 0 = k.read (k.sn.step C) 0 := by unfold Ge.step; rw [if_neg (by omega), ht]
    rw [e1]
    unfold Ge.read
    rw [if_pos hd]
  · unfold Ge.cells
    rw [if_neg (by omega), ht]
  · unfold Ge.ev
    rw [if_neg (by omega), ht]
theorem st_done (hp : k.ph = 0) (ht : k.ta = none) (hd : (k.sn.step C).ph = 1) (hz' : IsEnd (k.sn.step C).X k.e z) : k.ask C z ∧ k.step N hz C z = (if z < 0 then { k with sn := k.sn.step C, ph := 2 } else { k with sn := k.sn.step C, ta := some (ta0 k.t k.s k.so k.d k.who z ((k.sn.step C).X.getD z.toNat 0)) }) ∧ k.cells N hz C = C ∧ k.ev N hz C = k.sn.ev C := by
  refine ⟨fun _ _ _ => hz', ?_, ?_, ?_⟩
  · have e1 : k.step N hz C z = k.read (k.sn.step C) z := by unfold Ge.step; rw [if_neg (by omega), ht]
    rw [e1]
    unfold Ge.read
    rw [if_neg (fun h => h hd)]
  · unfold Ge.cells
    rw [if_neg (by omega), ht]
  · unfold Ge.ev
    rw [if_neg (by omega), ht]
theorem st_take {a : Ta} (hp : k.ph = 0) (ht : k.ta = some a) : k.ask C 0 ∧ k.step N hz C 0 = k.grab N (a.go a.slot.toNat (N + a.slot.toNat) C) ∧ k.cells N hz C = a.cells a.slot.toNat hz C ∧ k.ev N hz C = a.ev a.slot.toNat (N + a.slot.toNat) hz C := by
  refine ⟨(fun _ h => by rw [ht] at h; cases h), ?_, ?_, ?_⟩
  · unfold Ge.step
    rw [if_neg (by omega), ht]
  · unfold Ge.cells
    rw [if_neg (by omega), ht]
  · unfold Ge.ev
    rw [if_neg (by omega), ht]
end

/-- Two memories; a get over the first; what stands for its parts over the second. -/
def GS (W w : World) (p c p' c' : Nat) (C : List Int) (L : List Ev) (C' : List Int) (L' : List Ev) (b : Nat) (k : Ge) (R : List Thing) : Prop :=
  ∃ v', GeH W w p c C L b k (tMem W.heap.size p' c' v' C' L' :: R)

section
variable {W w w' : World} {p c p' c' b : Nat} {C C' : List Int} {L L' : List Ev} {k : Ge} {R : List Thing}
theorem GS.later (h : GS W w p c p' c' C L C' L' b k R) (e : Below w.heap.size w w') : GS W w' p c p' c' C L C' L' b k R := by
  obtain ⟨v', h⟩ := h
  exact ⟨v', h.later e⟩
theorem GS.drew (h : GS W w p c p' c' C L C' L' b k R) : GS W w.drew p c p' c' C L C' L' b k R := h.later (Below.refl _ _).drew
theorem GS.below (h : GS W w p c p' c' C L C' L' b k R) : Below W.heap.size W w := by
  obtain ⟨v', h⟩ := h
  exact h.below
theorem GS.size (h : GS W w p c p' c' C L C' L' b k R) : W.heap.size ≤ w.heap.size := by
  obtain ⟨v', h⟩ := h
  exact h.size
theorem GS.fit (h : GS W w p c p' c' C L C' L' b k R) : ∀ j, 0 ≤ C.getD j 0 ∧ C.getD j 0 ≤ 18446744073709551615 := by
  obtain ⟨v', h⟩ := h
  exact h.fit
theorem GS.mem1 (h : GS W w p c p' c' C L C' L' b k R) : ∃ v, IsMem W.heap.size w p c v C L := by
  obtain ⟨v', h⟩ := h
  exact h.mem
theorem GS.mem2 (h : GS W w p c p' c' C L C' L' b k R) : ∃ v, IsMem W.heap.size w p' c' v C' L' := by
  obtain ⟨v', v, bs, gs, bt, h⟩ := h
  exact ⟨v', h.has 2 _ rfl⟩
theorem GS.get (h : GS W w p c p' c' C L C' L' b k R) : ∃ R', GeH W w p c C L b k R' := by
  obtain ⟨v', h⟩ := h
  exact ⟨_, h⟩
/-- A step of the get. -/
theorem GS.call {N hz : Nat} (h : GS W w p c p' c' C L C' L' b k R) (hk : k.Ok N hz C) (hL : L.length < 1000000000) :
    Calls Tryz.prog 74 #[pt b, pt p] w fun r w' => ∃ z, k.ask C z ∧ r = .returned (i64 (k.step N hz C z).ph) ∧ GS W w' p c p' c' (k.cells N hz C) (L ++ k.ev N hz C) C' L' b (k.step N hz C z) R := by
  obtain ⟨v', h⟩ := h
  refine (h.call hk hL).mono ?_
  rintro r w' ⟨z, h1, h2, h3⟩
  exact ⟨z, h1, h2, v', h3⟩
/-- A step of the snap. -/
theorem GS.snap {ba ga : Nat} {s : Sn} {n : Int} (h : GS W w p c p' c' C L C' L' b k [tSn W.heap.size ba ga s]) (hk : s.Ok n C') (hL : L'.length < 1000000000) :
    Calls Tryz.prog 107 #[pt ba, pt p'] w fun r w' => r = .returned (i64 (s.step C').ph) ∧ GS W w' p c p' c' C L C' (L' ++ s.ev C') b k [tSn W.heap.size ba ga (s.step C')] := by
  obtain ⟨v', v, bs, gs, bt, h⟩ := h
  refine (snstep_any W.heap.size w ba ga p' c' v' C' L' s n hk (h.has 3 _ rfl) (h.has 2 _ rfl) (Hold.free h 2 3 (by decide) rfl rfl) h.size hL).mono ?_
  rintro r w' ⟨hr, v'', hd, hs⟩
  exact ⟨hr, v'', v, bs, gs, bt, Hold.does h 2 3 (by decide) rfl rfl hd (tSn_ok _ _ _ _) hs (fun q hq => hq)⟩
theorem GS.words {ba ga : Nat} {s : Sn} (h : GS W w p c p' c' C L C' L' b k [tSn W.heap.size ba ga s]) (hp : s.ph = 1) (hN : s.N ≤ 4096) :
    Calls Tryz.prog 108 #[pt ba] w (WordsPost s.X s.N w) := by
  obtain ⟨v', v, bs, gs, bt, h⟩ := h
  exact snwords_any W.heap.size w ba ga s hp hN (h.has 3 _ rfl)
/-- A step of the take. -/
theorem GS.take {x : Nat} {a : Ta} {n : Int} {j jv hz : Nat} (h : GS W w p c p' c' C L C' L' b k [tObj W.heap.size x a.list]) (hk : a.Ok n j jv hz C') (hL : L'.length < 1000000000) :
    Calls Tryz.prog 111 #[pt x, pt p'] w fun r w' => r = .returned (i64 (a.go j jv C').ph) ∧ GS W w' p c p' c' C L (a.cells j hz C') (L' ++ a.ev j jv hz C') b k [tObj W.heap.size x (a.go j jv C').list] := by
  obtain ⟨v', v, bs, gs, bt, h⟩ := h
  refine (tastep_any W.heap.size w x p' c' v' C' L' a n j jv hz hk (h.has 3 _ rfl).1 (h.has 2 _ rfl) (Hold.free h 2 3 (by decide) rfl rfl x rfl) h.size hL).mono ?_
  rintro r w' ⟨hr, v'', hd, hs⟩
  exact ⟨hr, v'', v, bs, gs, bt, Hold.does h 2 3 (by decide) rfl rfl hd (tObj_ok _ _ _) ⟨hs, (h.has 3 _ rfl).2⟩ (fun q hq => hq)⟩
theorem GS.value {x : Nat} {a : Ta} (h : GS W w p c p' c' C L C' L' b k [tObj W.heap.size x a.list]) (y : Int) (hy : (if a.ph = 1 then a.value else 0) = y) :
    Calls Tryz.prog 96 #[pt x] w fun r w' => r = .returned (u64 y) ∧ Below w.heap.size w w' := by
  obtain ⟨v', v, bs, gs, bt, h⟩ := h
  exact quiet_below (tavalue_at y hy (h.has 3 _ rfl).1)
/-- Another thing stands for the parts. -/
theorem GS.fresh {T : Thing} (h : GS W w p c p' c' C L C' L' b k R) (e : Below w.heap.size w w') (ok : T.Ok W.heap.size) (hP : T.P w') (hF : ∀ q, T.F q → w.heap.size ≤ q) : GS W w' p c p' c' C L C' L' b k [T] := by
  obtain ⟨v', v, bs, gs, bt, h⟩ := h
  exact ⟨v', v, bs, gs, bt, Hold.more (Hold.less (l := [_, _, _]) h) e ok hP hF⟩
theorem GS.only (h : GS W w p c p' c' C L C' L' b k R) : GS W w p c p' c' C L C' L' b k [] := by
  obtain ⟨v', v, bs, gs, bt, h⟩ := h
  exact ⟨v', v, bs, gs, bt, Hold.less (l := [_, _, _]) h⟩
/-- A cell of the first memory is stored, of the second one. -/
theorem GS.store1 (h : GS W w p c p' c' C L C' L' b k R) (who : Int) (i : Nat) (x y : Int) (hx : C[i]? = some x) (hL : L.length < 1000000000) (y0 : 0 ≤ y) (y1 : y ≤ 18446744073709551615) :
    Calls Tryz.prog 86 #[pt p, i64 who, i64 i, u64 y] w fun r w' => r = .returned (.tuple #[]) ∧ GS W w' p c p' c' (C.set i y) (L ++ [⟨who, 1, i, x, y, true⟩]) C' L' b k R ∧ ∃ T : Nat → Prop, Keep T w w' ∧ ∀ q, T q → ∃ v, Foot p c v q ∧ IsMem W.heap.size w p c v C L := by
  obtain ⟨v', v, bs, gs, bt, h⟩ := h
  refine (store_in W.heap.size w p c v C L who i x y (h.has 0 _ rfl) hx h.size hL y0 y1).mono ?_
  rintro r w' ⟨h1, v2, hT⟩
  exact ⟨h1, ⟨v', v2, bs, gs, bt, h.mem 0 rfl hT⟩, _, hT.keep, fun q hq => ⟨v, hq, h.has 0 _ rfl⟩⟩
theorem GS.store2 (h : GS W w p c p' c' C L C' L' b k R) (who : Int) (i : Nat) (x y : Int) (hx : C'[i]? = some x) (hL : L'.length < 1000000000) (y0 : 0 ≤ y) (y1 : y ≤ 18446744073709551615) :
    Calls Tryz.prog 86 #[pt p', i64 who, i64 i, u64 y] w fun r w' => r = .returned (.tuple #[]) ∧ GS W w' p c p' c' C L (C'.set i y) (L' ++ [⟨who, 1, i, x, y, true⟩]) b k R ∧ ∃ T : Nat → Prop, Keep T w w' ∧ ∀ q, T q → ∃ v, Foot p' c' v q ∧ IsMem W.heap.size w p' c' v C' L' := by
  obtain ⟨v', v, bs, gs, bt, h⟩ := h
  refine (store_in W.heap.size w p' c' v' C' L' who i x y (h.has 2 _ rfl) hx h.size hL y0 y1).mono ?_
  rintro r w' ⟨h1, v2, hT⟩
  exact ⟨h1, ⟨v2, v, bs, gs, bt, h.mem 2 rfl hT⟩, _, hT.keep, fun q hq => ⟨v', hq, h.has 2 _ rfl⟩⟩
end
/-- What the law has for its parts. -/
structure GFit (base : Nat) (k : Ge) (va vb : Value) (R : List Thing) : Prop where
  s : k.ph = 0 → k.ta = none → vb = .pointer none ∧ ∃ ba ga, va = pt ba ∧ R = [tSn base ba ga k.sn]
  t : k.ph = 0 → ∀ a, k.ta = some a → ∃ x, vb = pt x ∧ R = [tObj base x a.list]

theorem Ge.val0 {k : Ge} (h : k.ph = 0) : k.val = 0 := by
  unfold Ge.val
  rw [if_neg (by omega)]
theorem st_sn {k : Ge} {N hz : Nat} {C : List Int} (hk : k.Ok N hz C) (hf : ∀ j, 0 ≤ C.getD j 0 ∧ C.getD j 0 ≤ 18446744073709551615) (hp : k.ph = 0) (ht : k.ta = none) : (k.sn.step C).N = N ∧ (k.sn.step C).X.length = N ∧ ∀ i, 0 ≤ (k.sn.step C).X.getD i 0 ∧ (k.sn.step C).X.getD i 0 ≤ 18446744073709551615 := by
  have hx := step_X (k := k.sn) (C := C) hk.sX hf
  obtain ⟨s1, s2⟩ := hk.sn hp ht
  have hp1 : (k.sn.X.set k.sn.slot (C.getD k.sn.slot 0)).length = k.sn.N := by rw [List.length_set]; exact s1.X
  have hl : (k.sn.step C).X.length = k.sn.N := by
    unfold Sn.step
    rw [if_pos s2]
    split
    · exact hp1
    · exact hp1
  exact ⟨hx.1.trans hk.sN, hl.trans hk.sN, hx.2⟩
/-- The ends of an order. -/
theorem end_none {ws : List Int} {e : Int} (h : IsOrder ws []) : IsEnd ws e (-1) :=
  .inl ⟨rfl, fun i hi hl => by have := (h.mem i).2 ⟨hi, hl⟩; cases this⟩
theorem getD_mem {S : List Nat} {q : Nat} (h : q < S.length) : S.getD q 0 = S[q] := by
  rw [List.getD_eq_getElem?_getD, List.getElem?_eq_getElem h]
  rfl
theorem end_left {ws : List Int} {S : List Nat} {j : Nat} (h : IsOrder ws S) (h0 : 0 < S.length) (hj : S.getD 0 0 = j) : IsEnd ws 0 (j : Int) := by
  rw [getD_mem h0] at hj
  have hm := (h.mem S[0]).1 (List.getElem_mem h0)
  rw [hj] at hm
  refine .inr ⟨j, rfl, hm.1, hm.2, fun i hi hl => ?_⟩
  rw [if_pos rfl]
  obtain ⟨q, hq, rfl⟩ := List.getElem_of_mem ((h.mem i).2 ⟨hi, hl⟩)
  rcases Nat.eq_zero_or_pos q with rfl | h1
  · rw [hj]
    exact Int.le_refl _
  · have := List.pairwise_iff_getElem.1 h.rise 0 q h0 hq h1
    rw [hj] at this
    omega
theorem end_right {ws : List Int} {S : List Nat} {j : Nat} (h : IsOrder ws S) (h0 : 0 < S.length) (hj : S.getD (S.length - 1) 0 = j) : IsEnd ws 1 (j : Int) := by
  rw [getD_mem (by omega)] at hj
  have hm := (h.mem S[S.length - 1]).1 (List.getElem_mem (by omega))
  rw [hj] at hm
  refine .inr ⟨j, rfl, hm.1, hm.2, fun i hi hl => ?_⟩
  rw [if_neg (by decide)]
  obtain ⟨q, hq, rfl⟩ := List.getElem_of_mem ((h.mem i).2 ⟨hi, hl⟩)
  rcases (by omega : q = S.length - 1 ∨ q < S.length - 1) with rfl | h1
  · rw [hj]
    exact Int.le_refl _
  · have := List.pairwise_iff_getElem.1 h.rise q (S.length - 1) hq (by omega) h1
    rw [hj] at this
    omega
theorem Ge.step_ta {k : Ge} {N hz : Nat} {C : List Int} {z : Int} (h : k.ph = 1 → k.ta ≠ none) : (k.step N hz C z).ph = 1 → (k.step N hz C z).ta ≠ none := by
  unfold Ge.step
  split
  · exact h
  · rename_i hp
    have hp0 : k.ph = 0 := Classical.not_not.1 hp
    split
    · unfold Ge.read
      split
      · intro h1
        have : k.ph = 1 := h1
        omega
      · split
        · intro h1
          have : (2 : Int) = 1 := h1
          omega
        · intro h1
          have : k.ph = 1 := h1
          omega
    · unfold Ge.grab
      split
      · intro _ h1
        cases h1
      · split
        · intro h1
          have : k.ph = 1 := h1
          omega
        · intro _ h1
          cases h1

section
variable {W w w' : World} {p c p' c' b : Nat} {C C' : List Int} {L L' : List Ev} {k : Ge} {R : List Thing}
theorem GS.more {T : Thing} (h : GS W w p c p' c' C L C' L' b k R) (e : Below w.heap.size w w') (ok : T.Ok W.heap.size) (hP : T.P w') (hF : ∀ q, T.F q → w.heap.size ≤ q) : GS W w' p c p' c' C L C' L' b k (R ++ [T]) := by
  obtain ⟨v', v, bs, gs, bt, h⟩ := h
  exact ⟨v', v, bs, gs, bt, Hold.more h e ok hP hF⟩
theorem GS.less {Q : List Thing} (h : GS W w p c p' c' C L C' L' b k (R ++ Q)) : GS W w p c p' c' C L C' L' b k R := by
  obtain ⟨v', v, bs, gs, bt, h⟩ := h
  exact ⟨v', v, bs, gs, bt, Hold.less (l := tMem W.heap.size p c v C L :: tGe W.heap.size b bs gs bt k :: tMem W.heap.size p' c' v' C' L' :: R) h⟩
theorem GS.at {A : Thing} (h : GS W w p c p' c' C L C' L' b k R) (i : Nat) (hi : R[i]? = some A) : A.P w := by
  obtain ⟨v', v, bs, gs, bt, h⟩ := h
  exact h.has (i + 3) A hi
end
/-- A turn's box and the row of the two memories. -/
def bxL (base bx sb p p' : Nat) (ta ts : Int) (x : Th) : List Thing := [tObj base bx [i64 ta, i64 ts, i64 x.state, i64 x.gen, i64 x.at', i64 x.wide, .bool x.right, u64 x.value], tObj base sb [pt p, pt p']]
theorem GS.box {W w : World} {p c p' c' b bx sb cb q q' : Nat} {C C' : List Int} {L L' : List Ev} {k : Ge} {R : List Thing} {ta ts t s : Int} {x : Th} (h : GS W w p c p' c' C L C' L' b k (R ++ bxL W.heap.size bx sb q q' ta ts x)) (hA : AtC w cb t s 0 0) :
    AtCTh cb bx 2 t s 0 0 x w ∧ w.cell? ⟨sb, 0, none⟩ = some (pt q) ∧ w.cell? ⟨sb, 1, none⟩ = some (pt q') := by
  have h1 := (h.at R.length (by rw [List.getElem?_append_right (Nat.le_refl _), Nat.sub_self]; rfl) : (tObj W.heap.size bx _).P w).1
  have h2 := (h.at (R.length + 1) (by rw [List.getElem?_append_right (Nat.le_succ _), show R.length + 1 - R.length = 1 by omega]; rfl) : (tObj W.heap.size sb _).P w).1
  exact ⟨⟨hA, h1.at' 2 _ rfl, h1.at' 3 _ rfl, h1.at' 4 _ rfl, h1.at' 5 _ rfl, h1.at' 6 _ rfl, h1.at' 7 _ rfl⟩, h2.at' 0 _ rfl, h2.at' 1 _ rfl⟩
/-- Turns as they came in. -/
def IsTn (w : World) (a0 : Option Addr) (len cap b off : Nat) (X : Nat → Int × Int × Th) : Prop :=
  ∀ i, i < len → a0 = some ⟨b, off, none⟩ ∧ len ≤ cap ∧ b < w.heap.size ∧ w.cell? ⟨b, off + i * 8, none⟩ = some (i64 (X i).1) ∧ w.cell? ⟨b, off + i * 8 + 1, none⟩ = some (i64 (X i).2.1) ∧ w.cell? ⟨b, off + i * 8 + 2, none⟩ = some (i64 (X i).2.2.state) ∧ w.cell? ⟨b, off + i * 8 + 3, none⟩ = some (i64 (X i).2.2.gen) ∧ w.cell? ⟨b, off + i * 8 + 4, none⟩ = some (i64 (X i).2.2.at') ∧ w.cell? ⟨b, off + i * 8 + 5, none⟩ = some (i64 (X i).2.2.wide) ∧ w.cell? ⟨b, off + i * 8 + 6, none⟩ = some (.bool (X i).2.2.right) ∧ w.cell? ⟨b, off + i * 8 + 7, none⟩ = some (u64 (X i).2.2.value) ∧ 0 ≤ (X i).2.2.value ∧ (X i).2.2.value ≤ 18446744073709551615
theorem rows_turn8 {w : World} {a0 : Option Addr} {len cap : Nat} (h : IsRows w [.inl .i64, .inl .i64, .inl .i64, .inl .i64, .inl .i64, .inl .i64, .inr true, .inl .u64] a0 len cap) : ∃ b off, ∃ X : Nat → Int × Int × Th, IsTn w a0 len cap b off X := by
  obtain ⟨h1, h2, h3, h4, h5⟩ := h
  rcases Nat.eq_zero_or_pos len with h0 | hl
  · exact ⟨0, 0, fun _ => ⟨0, 0, 0, 0, 0, 0, false, 0⟩, fun i hi => by omega⟩
  obtain ⟨b, off, rfl⟩ := h4 hl
  have hx : ∀ i, ∃ x : Int × Int × Th, i < len → w.cell? ⟨b, off + i * 8, none⟩ = some (i64 x.1) ∧ w.cell? ⟨b, off + i * 8 + 1, none⟩ = some (i64 x.2.1) ∧ w.cell? ⟨b, off + i * 8 + 2, none⟩ = some (i64 x.2.2.state) ∧ w.cell? ⟨b, off + i * 8 + 3, none⟩ = some (i64 x.2.2.gen) ∧ w.cell? ⟨b, off + i * 8 + 4, none⟩ = some (i64 x.2.2.at') ∧ w.cell? ⟨b, off + i * 8 + 5, none⟩ = some (i64 x.2.2.wide) ∧ w.cell? ⟨b, off + i * 8 + 6, none⟩ = some (.bool x.2.2.right) ∧ w.cell? ⟨b, off + i * 8 + 7, none⟩ = some (u64 x.2.2.value) ∧ 0 ≤ x.2.2.value ∧ x.2.2.value ≤ 18446744073709551615 := by
    intro i
    by_cases hi : i < len
    · obtain ⟨cs, hf, hc⟩ := h5 b off rfl i hi
      obtain ⟨c0, l0, rfl, r0, f0⟩ := fit_cons hf
      obtain ⟨c1, l1, rfl, r1, f1⟩ := fit_cons f0
      obtain ⟨c2, l2, rfl, r2, f2⟩ := fit_cons f1
      obtain ⟨c3, l3, rfl, r3, f3⟩ := fit_cons f2
      obtain ⟨c4, l4, rfl, r4, f4⟩ := fit_cons f3
      obtain ⟨c5, l5, rfl, r5, f5⟩ := fit_cons f4
      obtain ⟨c6, l6, rfl, r6, f6⟩ := fit_cons f5
      obtain ⟨c7, l7, rfl, r7, f7⟩ := fit_cons f6
      obtain ⟨x0, rfl, g0⟩ := r0
      obtain ⟨x1, rfl, g1⟩ := r1
      obtain ⟨x2, rfl, g2⟩ := r2
      obtain ⟨x3, rfl, g3⟩ := r3
      obtain ⟨x4, rfl, g4⟩ := r4
      obtain ⟨x5, rfl, g5⟩ := r5
      obtain ⟨x6, rfl⟩ := r6
      obtain ⟨x7, rfl, g7⟩ := r7
      exact ⟨⟨x0, x1, x2, x3, x4, x5, x6, x7⟩, fun _ => ⟨hc 0 _ rfl, hc 1 _ rfl, hc 2 _ rfl, hc 3 _ rfl, hc 4 _ rfl, hc 5 _ rfl, hc 6 _ rfl, hc 7 _ rfl, (bounds_u64 g7).1, (bounds_u64 g7).2⟩⟩
    · exact ⟨⟨0, 0, 0, 0, 0, 0, false, 0⟩, fun h => absurd h hi⟩
  obtain ⟨X, hX⟩ := Classical.axiomOfChoice hx
  exact ⟨b, off, X, fun i hi => ⟨rfl, h1, World.block_lt_of_cell? w _ (hX i hi).1, hX i hi⟩⟩
theorem IsTn.later {w w' : World} {a : Option Addr} {len cap tb off B : Nat} {X : Nat → Int × Int × Th} (h : IsTn w a len cap tb off X) (e : Below B w w') (hB : ∀ i, i < len → tb < B) : IsTn w' a len cap tb off X := fun i hi => by
  obtain ⟨h1, h2, h3, x0, x1, x2, x3, x4, x5, x6, x7, h8⟩ := h i hi
  have hk : ∀ j, w'.cell? ⟨tb, j, none⟩ = w.cell? ⟨tb, j, none⟩ := fun j => e.cell (p := ⟨tb, j, none⟩) (hB i hi)
  have h9 := (hk _).trans x0
  exact ⟨h1, h2, World.block_lt_of_cell? w' _ h9, h9, (hk _).trans x1, (hk _).trans x2, (hk _).trans x3, (hk _).trans x4, (hk _).trans x5, (hk _).trans x6, (hk _).trans x7, h8⟩
end

section
open Go.RowKit
set_option linter.unusedVariables false

abbrev callV (kd e v s : Int) : Value := .agg #[i64 kd, i64 e, u64 v, i64 s]
abbrev replyV (ok : Bool) (v lo hi : Int) : Value := .agg #[.bool ok, u64 v, i64 lo, i64 hi]
/-- A task's own cells: what it was asked for, and what does it. -/
abbrev taskL (kd e v s : Int) (wk : Value) : List Value := [i64 kd, i64 e, u64 v, i64 s, wk]
abbrev wPut (b : Nat) : Value := .iface 132 (pt b)
abbrev wGet (b : Nat) : Value := .iface 134 (pt b)

theorem as_put_put (W : World) (v : Value) : (Instr.typeAssert (.iface 132 v) 129 132 true).run Tryz.prog W = .ok (.tuple #[v, .bool true]) W := by kernel_rfl
theorem as_put_get (W : World) (v : Value) : (Instr.typeAssert (.iface 132 v) 129 134 true).run Tryz.prog W = .ok (.tuple #[.pointer none, .bool false]) W := by kernel_rfl
theorem as_get_put (W : World) (v : Value) : (Instr.typeAssert (.iface 134 v) 129 132 true).run Tryz.prog W = .ok (.tuple #[.pointer none, .bool false]) W := by kernel_rfl
theorem as_get_get (W : World) (v : Value) : (Instr.typeAssert (.iface 134 v) 129 134 true).run Tryz.prog W = .ok (.tuple #[v, .bool true]) W := by kernel_rfl

theorem ret_b {a b : Bool} (h : a = b) : Ending.returned (.bool a) = .returned (.bool b) := by rw [h]

set_option maxRecDepth 100000 in
set_option maxHeartbeats 2000000 in
theorem callright_any (kd e v s : Int) (w : World) :
    Calls Tryz.prog 58 #[callV kd e v s] w fun r w' => r = .returned (.bool (decide ((kd = 0 ∨ kd = 1) ∧ (e = 0 ∨ e = 1)))) ∧ Below w.heap.size w w' := by
  go_enter Tryz.func58, Tryz.ntmps58
  go_wp2
  all_goals
    go_ret
    refine ⟨?_, below_new (Below.refl _ _) _⟩
    exact ret_b (by grind)

theorem callright_yes (kd e v s : Int) (w : World) (hk : kd = 0 ∨ kd = 1) (he : e = 0 ∨ e = 1) :
    Calls Tryz.prog 58 #[callV kd e v s] w fun r w' => r = .returned (.bool true) ∧ Below w.heap.size w w' := by
  have h := callright_any kd e v s w
  rw [decide_eq_true ⟨hk, he⟩] at h
  exact h

section
variable {w w' : World} {b : Nat} {kd e v s : Int} {wk : Value}

/-- The cells. -/
structure AtTask (w : World) (b : Nat) (kd e v s : Int) (wk : Value) : Prop where
  c0 : w.cell? ⟨b, 0, none⟩ = some (i64 kd)
  c1 : w.cell? ⟨b, 1, none⟩ = some (i64 e)
  c2 : w.cell? ⟨b, 2, none⟩ = some (u64 v)
  c3 : w.cell? ⟨b, 3, none⟩ = some (i64 s)
  c4 : w.cell? ⟨b, 4, none⟩ = some wk
theorem IsObj.task (h : IsObj w b (taskL kd e v s wk)) : AtTask w b kd e v s wk := ⟨h.at' 0 _ rfl, h.at' 1 _ rfl, h.at' 2 _ rfl, h.at' 3 _ rfl, h.at' 4 _ rfl⟩

set_option maxHeartbeats 1000000 in
theorem tphase_put {bp b1 b2 : Nat} {k : Pu} (h : IsObj w b (taskL kd e v s (wPut bp))) (hk : IsPu w bp b1 b2 k) : Calls Tryz.prog 76 #[pt b] w fun r w' => r = .returned (i64 k.ph) ∧ w = w' := by
  have c4 := h.task.c4
  have HK := Lib.hid hk
  clear h hk
  go_enter Tryz.func76, Tryz.ntmps76
  go_wp2_with fail
  refine (puphase_any _ _ _ _ _ HK.out.obj).mono ?_
  rintro r w' ⟨rfl, rfl⟩
  go_wp2
  go_ret
  exact ⟨rfl, rfl⟩

set_option maxHeartbeats 1000000 in
theorem tover_put {bp b1 b2 : Nat} {k : Pu} (h : IsObj w b (taskL kd e v s (wPut bp))) (hk : IsPu w bp b1 b2 k) : Calls Tryz.prog 75 #[pt b] w fun r w' => r = .returned (.bool (k.ph != 0)) ∧ w = w' := by
  have HP := Lib.hid (tphase_put h hk)
  clear h hk
  go_enter Tryz.func75, Tryz.ntmps75
  go_wp2_with fail
  refine HP.out.mono ?_
  rintro r w' ⟨rfl, rfl⟩
  go_wp2
  go_ret
  exact ⟨rfl, rfl⟩
end

section
variable {W w w' : World} {p c b bp b1 b2 : Nat} {v : Value} {C : List Int} {L : List Ev} {k : Pu} {R : List Thing} {kd e x s : Int}

abbrev tTask (W : World) (b : Nat) (kd e x s : Int) (wk : Value) : Thing := tObj W.heap.size b (taskL kd e x s wk)
theorem PuHold.obj (h : PuHold W w p c v C L bp b1 b2 k (tTask W b kd e x s (wPut bp) :: R)) : IsObj w b (taskL kd e x s (wPut bp)) := (Hold.has h 2 _ rfl).1

set_option maxRecDepth 100000 in
set_option maxHeartbeats 2000000 in
theorem tstep_put {now : Int} {k' : Pu} {C' : List Int} {L' : List Ev} (h : IsObj w b (taskL kd e x s (wPut bp)))
    (hin : Calls Tryz.prog 73 #[pt bp, pt p, i64 now] w fun r w' => r = .returned (i64 k'.ph) ∧ ∃ v', PuHold W w' p c v' C' L' bp b1 b2 k' (tTask W b kd e x s (wPut bp) :: R)) :
    Calls Tryz.prog 60 #[pt b, pt p, i64 now] w fun r w' => r = .returned (.bool (k'.ph != 0)) ∧ ∃ v', PuHold W w' p c v' C' L' bp b1 b2 k' (tTask W b kd e x s (wPut bp) :: R) := by
  have c4 := h.task.c4
  have HC := Lib.hid hin
  have a1 := as_put_put w (pt bp)
  clear h hin
  go_enter Tryz.func60, Tryz.ntmps60
  go_wp2_with fail
  refine HC.out.mono ?_
  rintro r w1 ⟨rfl, v1, hH⟩
  have HH := Lib.hid hH
  have HO := Lib.hid (tover_put hH.obj hH.pu)
  clear hH c4 a1
  go_wp2_with fail
  refine HO.out.mono ?_
  rintro r w2 ⟨rfl, rfl⟩
  go_wp2
  go_ret
  exact ⟨rfl, v1, HH.out⟩
/-- A step. -/
theorem PuHold.tstep {N : Nat} {m : Int} {nb hz : Nat} {now : Int} (h : PuHold W w p c v C L bp b1 b2 k (tTask W b kd e x s (wPut bp) :: R)) (hk : k.Ok N m nb hz C) (n0 : 0 ≤ now) (hL : L.length < 1000000000) :
    Calls Tryz.prog 60 #[pt b, pt p, i64 now] w fun r w' => r = .returned (.bool ((k.step m nb hz C now).ph != 0)) ∧ ∃ v', PuHold W w' p c v' (k.cells N nb C now) (L ++ k.ev N nb hz C now) bp b1 b2 (k.step m nb hz C now) (tTask W b kd e x s (wPut bp) :: R) :=
  tstep_put h.obj (h.call hk n0 hL)

/-- What comes of it. -/
def Pu.reply (k : Pu) : Value := if k.ph = 1 then replyV true 0 k.tk.lo k.tk.hi else replyV false 0 0 0

set_option maxRecDepth 100000 in
set_option maxHeartbeats 4000000 in
theorem PuHold.treply (h : PuHold W w p c v C L bp b1 b2 k (tTask W b kd e x s (wPut bp) :: R)) :
    Calls Tryz.prog 61 #[pt b] w fun r w' => r = .returned k.reply ∧ Below w.heap.size w w' := by
  have HH := Lib.hid (h.later (below_new (Below.refl _ _) (.cells #[.bool false, .int .u64 0, .int .i64 0, .int .i64 0] 74)))
  by_cases hp : k.ph = 1
  · have HR : Hid (k.reply = replyV true 0 k.tk.lo k.tk.hi) := if_pos hp
    have q : (k.ph != 1) = false := by simp [hp]
    have HP := Lib.hid hp
    have HF := Lib.hid (tphase_put HH.out.obj HH.out.pu)
    clear h hp
    go_enter Tryz.func61, Tryz.ntmps61
    go_wp2_with fail
    refine HF.out.mono ?_
    rintro r w1 ⟨rfl, rfl⟩
    clear HF
    replace HH := Lib.hid (HH.out.later (below_new (Below.refl _ _) (.cells #[.bool true, .int .u64 0, .int .i64 0, .int .i64 0] 74)))
    have c4 := HH.out.obj.task.c4
    have a1 := fun W => as_put_put W (pt bp)
    have a2 := fun W => as_put_get W (pt bp)
    go_wp2_with fail
    refine (pustamp_yes _ _ _ _ _ HP.out HH.out.pu).mono ?_
    rintro r w1 ⟨rfl, hb1⟩
    have c5 := (HH.out.later hb1).obj.task.c4
    obtain ⟨hc, hf⟩ := bcell hb1
    go_wp2
    rw [HR.out]
    have k0 : ∀ j x, (#[Value.bool false, .int .u64 0, .int .i64 0, .int .i64 0] : Array Value)[j]? = some x → (w1.cell? ⟨w.heap.size, j, none⟩).isSome = true := fun j x hj => by
      rw [hc _ _ (by simp; omega), World.cell?_alloc_old _ _ _ (by simp), World.cell?_alloc_new, hj]
      rfl
    have k1 : (w1.cell? ⟨w.heap.size, 0, none⟩).isSome = true := k0 0 _ rfl
    have k2 : (w1.cell? ⟨w.heap.size, 1, none⟩).isSome = true := k0 1 _ rfl
    have k3 : (w1.cell? ⟨w.heap.size, 2, none⟩).isSome = true := k0 2 _ rfl
    have k4 : (w1.cell? ⟨w.heap.size, 3, none⟩).isSome = true := k0 3 _ rfl
    have hbb : Below w.heap.size w w1 := below_step (below_new (below_new (Below.refl _ _) _) _) hb1
    exact bodyPost_ret (v := replyV true 0 k.tk.lo k.tk.hi) (by simp [results, Tryz.results61, go_sem, k1, k2, k3, k4]) rfl ⟨rfl, below_set (below_set (below_set (below_set (below_set (below_set hbb (Nat.le_succ _) _) (Nat.le_succ _) _) (Nat.le_refl _) _) (Nat.le_refl _) _) (Nat.le_refl _) _) (Nat.le_refl _) _⟩
  · have HR : Hid (k.reply = replyV false 0 0 0) := if_neg hp
    have q : (k.ph != 1) = true := by simp [hp]
    have HF := Lib.hid (tphase_put HH.out.obj HH.out.pu)
    clear h hp
    go_enter Tryz.func61, Tryz.ntmps61
    go_wp2_with fail
    refine HF.out.mono ?_
    rintro r w1 ⟨rfl, rfl⟩
    clear HF
    go_wp2
    rw [HR.out]
    exact bodyPost_ret (v := replyV false 0 0 0) (by simp [results, Tryz.results61, go_sem]) rfl ⟨rfl, by repeat' first | exact below_new (Below.refl _ _) _ | refine below_set ?_ (by simp) _⟩
end

/-- What a task begins with: its layout, its call, itself, in blocks of their own. -/
structure Begun3 (w W : World) (t s so d kd e x start : Int) : Prop where
  conf : AtC W w.heap.size t s so d
  call : IsObj W (w.heap.size + 1) [i64 kd, i64 e, u64 x, i64 start]
  task : IsObj W (w.heap.size + 1 + 1) (taskL kd e x start .nilIface)
  below : Below w.heap.size w W
  size : W.heap.size = w.heap.size + 1 + 1 + 1
theorem Begun3.made (w : World) (t s so d kd e x start : Int) : Begun3 w (((w.alloc (.cells #[.int .i64 t, .int .i64 s, .int .i64 so, .int .i64 d] 24)).alloc (.cells #[i64 kd, i64 e, u64 x, i64 start] 37)).alloc (.cells #[i64 kd, i64 e, u64 x, i64 start, .nilIface] 131)) t s so d kd e x start := by
  have s1 : (w.alloc (.cells #[.int .i64 t, .int .i64 s, .int .i64 so, .int .i64 d] 24)).heap.size = w.heap.size + 1 := by simp
  have h1 := AtC.made w t s so d
  have b1 := below_new (Below.refl w.heap.size w) (.cells #[.int .i64 t, .int .i64 s, .int .i64 so, .int .i64 d] 24)
  generalize w.alloc (.cells #[.int .i64 t, .int .i64 s, .int .i64 so, .int .i64 d] 24) = wa at s1 h1 b1 ⊢
  have s2 : (wa.alloc (.cells #[i64 kd, i64 e, u64 x, i64 start] 37)).heap.size = wa.heap.size + 1 := by simp
  have h2 : IsObj (wa.alloc (.cells #[i64 kd, i64 e, u64 x, i64 start] 37)) wa.heap.size [i64 kd, i64 e, u64 x, i64 start] := IsObj.made wa [i64 kd, i64 e, u64 x, i64 start] 37
  have b2 := below_new (Below.refl wa.heap.size wa) (.cells #[i64 kd, i64 e, u64 x, i64 start] 37)
  generalize wa.alloc (.cells #[i64 kd, i64 e, u64 x, i64 start] 37) = wb at s2 h2 b2 ⊢
  have s3 : (wb.alloc (.cells #[i64 kd, i64 e, u64 x, i64 start, .nilIface] 131)).heap.size = wb.heap.size + 1 := by simp
  have h3 : IsObj (wb.alloc (.cells #[i64 kd, i64 e, u64 x, i64 start, .nilIface] 131)) wb.heap.size (taskL kd e x start .nilIface) := IsObj.made wb [i64 kd, i64 e, u64 x, i64 start, .nilIface] 131
  have b3 := below_new (Below.refl wb.heap.size wb) (.cells #[i64 kd, i64 e, u64 x, i64 start, .nilIface] 131)
  generalize wb.alloc (.cells #[i64 kd, i64 e, u64 x, i64 start, .nilIface] 131) = wc at s3 h3 b3 ⊢
  rw [s1] at h2 s2
  rw [s2] at h3 s3
  exact ⟨(h1.later b2 (by omega)).later b3 (by omega), h2.later b3, h3, below_step b1 (below_step b2 b3 |>.mono (by omega)), s3⟩
theorem Begun3.later {w W W' : World} {t s so d kd e x start : Int} (h : Begun3 w W t s so d kd e x start) (k : Below W.heap.size W W') : AtC W' w.heap.size t s so d ∧ IsObj W' (w.heap.size + 1) [i64 kd, i64 e, u64 x, i64 start] ∧ IsObj W' (w.heap.size + 1 + 1) (taskL kd e x start .nilIface) :=
  ⟨h.conf.later k (by have := h.size; omega), h.call.later k, h.task.later k⟩

section
variable {w : World} {N : Nat}
/-- Where a task and its put lie. -/
def TpB (b bp b1 b2 : Nat) (i : Nat) : Prop := i = b ∨ PuB bp b1 b2 i

set_option maxRecDepth 100000 in
set_option maxHeartbeats 4000000 in
theorem tknew_put (t s so d who e x start m : Int) (hl : Lay t s N) (w0 : 0 ≤ who) (w1 : who < t) (hm : who * s = m) (m0 : 0 ≤ m) (m1 : m + s ≤ N) (he : e = 0 ∨ e = 1) :
    Calls Tryz.prog 59 #[cf t s so d, i64 who, callV 0 e x start] w fun r w' => ∃ b bp b1 b2, r = .returned (pt b) ∧ IsObj w' b (taskL 0 e x start (wPut bp)) ∧ IsPu w' bp b1 b2 (pu0 t s so d who e x m) ∧ Below w.heap.size w w' ∧ (∀ i, TpB b bp b1 b2 i → w.heap.size ≤ i) ∧ ¬ PuB bp b1 b2 b := by
  have HN := Lib.hid (fun w => punew_any (N := N) (m := m) w t s so d who e x hl w0 w1 hm m0 m1)
  have HR := Lib.hid (fun w => callright_yes 0 e x start w (.inl rfl) he)
  have HF := Lib.hid (Begun3.made w t s so d 0 e x start)
  clear hm he hl w0 w1 m0 m1
  go_enter Tryz.func59, Tryz.ntmps59
  go_wp2_with fail
  generalize ((w.alloc (.cells #[.int .i64 t, .int .i64 s, .int .i64 so, .int .i64 d] 24)).alloc (.cells #[i64 0, i64 e, u64 x, i64 start] 37)).alloc (.cells #[i64 0, i64 e, u64 x, i64 start, .nilIface] 131) = W at HF ⊢
  refine (HR.out W).mono ?_
  rintro r w1 ⟨rfl, hb1⟩
  obtain ⟨⟨c0, c1, c2, c3⟩, hC, hT⟩ := HF.out.later hb1
  have d0 := hC.at' 0 _ rfl
  have d1 := hC.at' 1 _ rfl
  have d2 := hC.at' 2 _ rfl
  have HB := Lib.hid (below_step' HF.out.below hb1 HF.out.below.size)
  have HT := Lib.hid hT
  clear hC hT
  go_wp2_with fail
  refine (HN.out w1).mono ?_
  rintro r w2 ⟨bp, b1, b2, rfl, hP, hb2, hn⟩
  have hO := HT.out.later hb2
  have hf := hO.fz 4
  have e4 := hO.at' 4 _ rfl
  have hs1 := HF.out.size
  have hs2 := hb1.size
  have hP2 : IsPu (w2.setCell ⟨w.heap.size + 1 + 1, 4, none⟩ (wPut bp)) bp b1 b2 (pu0 t s so d who e x m) := hP.keep (T := (· = w.heap.size + 1 + 1)) ((Keep.refl _ _).own 4 _) (fun h => by have := hn bp (.inl rfl); omega) (fun h => by have := hn b1 (.inr (.inl rfl)); omega) (fun h => by have := hn b2 (.inr (.inr rfl)); omega)
  have HX := Lib.hid hP2
  have HY := Lib.hid (hO.set 4 (wPut bp))
  have HZ : Hid (Below w.heap.size w (w2.setCell ⟨w.heap.size + 1 + 1, 4, none⟩ (wPut bp))) := below_set (below_step' HB.out hb2 HB.out.size) (by show w.heap.size ≤ w.heap.size + 1 + 1; omega) _
  have HN2 : Hid ((∀ i, TpB (w.heap.size + 1 + 1) bp b1 b2 i → w.heap.size ≤ i) ∧ ¬ PuB bp b1 b2 (w.heap.size + 1 + 1)) := by
    refine ⟨fun i hi => ?_, fun h => by have := hn _ h; omega⟩
    rcases hi with rfl | hi
    · omega
    · have := hn _ hi
      omega
  clear hP2 hO hP hn
  go_wp2_with fail
  go_ret
  exact ⟨_, bp, b1, b2, rfl, HY.out, HX.out, HZ.out, HN2.out⟩
end
end

section
open Go.RowKit
set_option linter.unusedVariables false

section
variable {base : Nat} {w w' : World} {b bg bs gs : Nat} {bt : Option Nat} {kd e x s : Int} {k : Ge}

set_option maxHeartbeats 1000000 in
theorem tphase_get (h : IsObj w b (taskL kd e x s (wGet bg))) (hk : IsGe base w bg bs gs bt k) : Calls Tryz.prog 76 #[pt b] w fun r w' => r = .returned (i64 k.ph) ∧ w = w' := by
  have c4 := h.task.c4
  have HK := Lib.hid hk
  clear h hk
  go_enter Tryz.func76, Tryz.ntmps76
  go_wp2_with fail
  refine (gephase_any _ _ _ _ _ _ _ HK.out).mono ?_
  rintro r w' ⟨rfl, rfl⟩
  go_wp2
  go_ret
  exact ⟨rfl, rfl⟩

set_option maxHeartbeats 1000000 in
theorem tover_get (h : IsObj w b (taskL kd e x s (wGet bg))) (hk : IsGe base w bg bs gs bt k) : Calls Tryz.prog 75 #[pt b] w fun r w' => r = .returned (.bool (k.ph != 0)) ∧ w = w' := by
  have HP := Lib.hid (tphase_get h hk)
  clear h hk
  go_enter Tryz.func75, Tryz.ntmps75
  go_wp2_with fail
  refine HP.out.mono ?_
  rintro r w' ⟨rfl, rfl⟩
  go_wp2
  go_ret
  exact ⟨rfl, rfl⟩
end

section
variable {W w w' : World} {p c b bg : Nat} {C : List Int} {L : List Ev} {k : Ge} {R : List Thing} {kd e x s : Int}

theorem GeH.obj (h : GeH W w p c C L bg k (tTask W b kd e x s (wGet bg) :: R)) : IsObj w b (taskL kd e x s (wGet bg)) := by
  obtain ⟨v, bs, gs, bt, h⟩ := h
  exact (Hold.has h 2 _ rfl).1
theorem GeH.tover (h : GeH W w p c C L bg k (tTask W b kd e x s (wGet bg) :: R)) : Calls Tryz.prog 75 #[pt b] w fun r w' => r = .returned (.bool (k.ph != 0)) ∧ w = w' := by
  have ho := h.obj
  obtain ⟨v, bs, gs, bt, h⟩ := h
  exact tover_get ho (h.has 1 _ rfl)

set_option maxRecDepth 100000 in
set_option maxHeartbeats 2000000 in
theorem tstep_get {now : Int} {Z : Int → Prop} {f : Int → Ge} {C' : List Int} {L' : List Ev} (h : IsObj w b (taskL kd e x s (wGet bg)))
    (hin : Calls Tryz.prog 74 #[pt bg, pt p] w fun r w' => ∃ z, Z z ∧ r = .returned (i64 (f z).ph) ∧ GeH W w' p c C' L' bg (f z) (tTask W b kd e x s (wGet bg) :: R)) :
    Calls Tryz.prog 60 #[pt b, pt p, i64 now] w fun r w' => ∃ z, Z z ∧ r = .returned (.bool ((f z).ph != 0)) ∧ GeH W w' p c C' L' bg (f z) (tTask W b kd e x s (wGet bg) :: R) := by
  have c4 := h.task.c4
  have HC := Lib.hid hin
  have a1 := as_get_put w (pt bg)
  have a2 := as_get_get w (pt bg)
  clear h hin
  go_enter Tryz.func60, Tryz.ntmps60
  go_wp2_with fail
  refine HC.out.mono ?_
  rintro r w1 ⟨z, hz, rfl, hH⟩
  have HH := Lib.hid hH
  have HO := Lib.hid hH.tover
  have HZ := Lib.hid hz
  clear hH c4 a1 a2 hz
  go_wp2_with fail
  refine HO.out.mono ?_
  rintro r w2 ⟨rfl, rfl⟩
  go_wp2
  go_ret
  exact ⟨z, HZ.out, rfl, HH.out⟩
/-- A step. -/
theorem GeH.tstep {N hz : Nat} {now : Int} (h : GeH W w p c C L bg k (tTask W b kd e x s (wGet bg) :: R)) (hk : k.Ok N hz C) (hL : L.length < 1000000000) :
    Calls Tryz.prog 60 #[pt b, pt p, i64 now] w fun r w' => ∃ z, k.ask C z ∧ r = .returned (.bool ((k.step N hz C z).ph != 0)) ∧ GeH W w' p c (k.cells N hz C) (L ++ k.ev N hz C) bg (k.step N hz C z) (tTask W b kd e x s (wGet bg) :: R) :=
  tstep_get h.obj (h.call hk hL)

/-- What comes of it. -/
def Ge.reply (k : Ge) : Value := if k.ph = 1 then replyV true k.val 0 0 else replyV false 0 0 0

set_option maxRecDepth 100000 in
set_option maxHeartbeats 4000000 in
theorem GeH.treply (h : GeH W w p c C L bg k (tTask W b kd e x s (wGet bg) :: R)) (h1 : k.ph = 1 → k.ta ≠ none) :
    Calls Tryz.prog 61 #[pt b] w fun r w' => r = .returned k.reply ∧ Below w.heap.size w w' := by
  have hh := h.later (below_new (Below.refl _ _) (.cells #[.bool false, .int .u64 0, .int .i64 0, .int .i64 0] 74))
  have ho := hh.obj
  have HH := Lib.hid hh
  obtain ⟨v, bs, gs, bt, hh⟩ := hh
  have HF := Lib.hid (tphase_get ho (hh.has 1 _ rfl))
  clear hh ho
  by_cases hp : k.ph = 1
  · have HR : Hid (k.reply = replyV true k.val 0 0) := if_pos hp
    have q : (k.ph != 1) = false := by simp [hp]
    have H1 := Lib.hid (h1 hp)
    clear h hp h1
    go_enter Tryz.func61, Tryz.ntmps61
    go_wp2_with fail
    refine HF.out.mono ?_
    rintro r w1 ⟨rfl, rfl⟩
    clear HF
    replace HH := Lib.hid (HH.out.later (below_new (Below.refl _ _) (.cells #[.bool true, .int .u64 0, .int .i64 0, .int .i64 0] 74)))
    have c4 := HH.out.obj.task.c4
    have a1 := fun W => as_get_put W (pt bg)
    have a2 := fun W => as_get_get W (pt bg)
    have HV := Lib.hid (HH.out.value k.val rfl (fun _ => H1.out))
    go_wp2_with fail
    refine HV.out.mono ?_
    rintro r w1 ⟨rfl, hb1⟩
    obtain ⟨hc, hf⟩ := bcell hb1
    clear HV c4
    go_wp2
    rw [HR.out]
    have k0 : ∀ j x, (#[Value.bool false, .int .u64 0, .int .i64 0, .int .i64 0] : Array Value)[j]? = some x → (w1.cell? ⟨w.heap.size, j, none⟩).isSome = true := fun j x hj => by
      rw [hc _ _ (by simp; omega), World.cell?_alloc_old _ _ _ (by simp), World.cell?_alloc_new, hj]
      rfl
    have k1 : (w1.cell? ⟨w.heap.size, 0, none⟩).isSome = true := k0 0 _ rfl
    have k2 : (w1.cell? ⟨w.heap.size, 1, none⟩).isSome = true := k0 1 _ rfl
    have k3 : (w1.cell? ⟨w.heap.size, 2, none⟩).isSome = true := k0 2 _ rfl
    have k4 : (w1.cell? ⟨w.heap.size, 3, none⟩).isSome = true := k0 3 _ rfl
    have hbb : Below w.heap.size w w1 := below_step (below_new (below_new (Below.refl _ _) _) _) hb1
    exact bodyPost_ret (v := replyV true k.val 0 0) (by simp [results, Tryz.results61, go_sem, k1, k2, k3, k4]) rfl ⟨rfl, below_set (below_set (below_set (below_set (below_set hbb (Nat.le_succ _) _) (Nat.le_refl _) _) (Nat.le_refl _) _) (Nat.le_refl _) _) (Nat.le_refl _) _⟩
  · have HR : Hid (k.reply = replyV false 0 0 0) := if_neg hp
    have q : (k.ph != 1) = true := by simp [hp]
    clear h hp h1
    go_enter Tryz.func61, Tryz.ntmps61
    go_wp2_with fail
    refine HF.out.mono ?_
    rintro r w1 ⟨rfl, rfl⟩
    clear HF
    go_wp2
    rw [HR.out]
    exact bodyPost_ret (v := replyV false 0 0 0) (by simp [results, Tryz.results61, go_sem]) rfl ⟨rfl, by repeat' first | exact below_new (Below.refl _ _) _ | refine below_set ?_ (by simp) _⟩
end

section
variable {base : Nat} {w : World} {N : Nat}

set_option maxRecDepth 100000 in
set_option maxHeartbeats 4000000 in
theorem tknew_get (t s so d who e x start : Int) (hl : Lay t s N) (he : e = 0 ∨ e = 1) (hb : base ≤ w.heap.size) :
    Calls Tryz.prog 59 #[cf t s so d, i64 who, callV 1 e x start] w fun r w' => ∃ b bg bs gs, r = .returned (pt b) ∧ IsObj w' b (taskL 1 e x start (wGet bg)) ∧ IsGe base w' bg bs gs none (ge0 t s so d who e start N) ∧ Below w.heap.size w w' ∧ (∀ i, i = b ∨ GeB bg bs gs none i → w.heap.size ≤ i) ∧ ¬ GeB bg bs gs none b := by
  have HN := Lib.hid (fun w1 hb1 => genew_any base w1 N t s so d who e start hl hb1)
  have HR := Lib.hid (fun w => callright_yes 1 e x start w (.inr rfl) he)
  have HF := Lib.hid (Begun3.made w t s so d 1 e x start)
  have Hb := Lib.hid hb
  clear he hl hb
  go_enter Tryz.func59, Tryz.ntmps59
  go_wp2_with fail
  generalize ((w.alloc (.cells #[.int .i64 t, .int .i64 s, .int .i64 so, .int .i64 d] 24)).alloc (.cells #[i64 1, i64 e, u64 x, i64 start] 37)).alloc (.cells #[i64 1, i64 e, u64 x, i64 start, .nilIface] 131) = W at HF ⊢
  refine (HR.out W).mono ?_
  rintro r w1 ⟨rfl, hb1⟩
  obtain ⟨⟨c0, c1, c2, c3⟩, hC, hT⟩ := HF.out.later hb1
  have d0 := hC.at' 0 _ rfl
  have d1 := hC.at' 1 _ rfl
  have d2 := hC.at' 3 _ rfl
  have HB := Lib.hid (below_step' HF.out.below hb1 HF.out.below.size)
  have HT := Lib.hid hT
  clear hC hT
  go_wp2_with fail
  refine (HN.out w1 (by have := HB.out.size; have := Hb.out; omega)).mono ?_
  rintro r w2 ⟨bg, bs, gs, rfl, hP, hb2, hn⟩
  have hO := HT.out.later hb2
  have hf := hO.fz 4
  have e4 := hO.at' 4 _ rfl
  have hs1 := HF.out.size
  have hs2 := hb1.size
  have hP2 : IsGe base (w2.setCell ⟨w.heap.size + 1 + 1, 4, none⟩ (wGet bg)) bg bs gs none (ge0 t s so d who e start N) := hP.keep (T := (· = w.heap.size + 1 + 1)) ((Keep.refl _ _).own 4 _) (fun i hi h => by have := hn i hi; omega)
  have HX := Lib.hid hP2
  have HY := Lib.hid (hO.set 4 (wGet bg))
  have HZ : Hid (Below w.heap.size w (w2.setCell ⟨w.heap.size + 1 + 1, 4, none⟩ (wGet bg))) := below_set (below_step' HB.out hb2 HB.out.size) (by show w.heap.size ≤ w.heap.size + 1 + 1; omega) _
  have HN2 : Hid ((∀ i, i = w.heap.size + 1 + 1 ∨ GeB bg bs gs none i → w.heap.size ≤ i) ∧ ¬ GeB bg bs gs none (w.heap.size + 1 + 1)) := by
    refine ⟨fun i hi => ?_, fun h => by have := hn _ h; omega⟩
    rcases hi with rfl | hi
    · omega
    · have := hn _ hi
      omega
  clear hP2 hO hP hn
  go_wp2_with fail
  go_ret
  exact ⟨_, bg, bs, gs, rfl, HY.out, HX.out, HZ.out, HN2.out⟩
end
end

section
open Go.RowKit
set_option linter.unusedVariables false

/-- Two more things, made at once. -/
theorem Hold.join {W w : World} {l : List Thing} {A B : Thing} (h1 : Hold W w (l ++ [A])) (h2 : Hold W w (l ++ [B])) (hab : ∀ q, A.F q → ¬ B.F q) : Hold W w (l ++ [A, B]) := by
  have c3 : ∀ (i : Nat) (E : Thing), (l ++ [A, B])[i]? = some E → (i < l.length ∧ l[i]? = some E) ∨ (i = l.length ∧ E = A) ∨ (i = l.length + 1 ∧ E = B) := by
    intro i E he
    rcases Nat.lt_or_ge i l.length with hi | hi
    · rw [List.getElem?_append_left hi] at he
      exact .inl ⟨hi, he⟩
    · rw [List.getElem?_append_right hi] at he
      rcases (by omega : i - l.length = 0 ∨ i - l.length = 1 ∨ 2 ≤ i - l.length) with h | h | h
      · rw [h] at he
        cases he
        exact .inr (.inl ⟨by omega, rfl⟩)
      · rw [h] at he
        cases he
        exact .inr (.inr ⟨by omega, rfl⟩)
      · rw [List.getElem?_eq_none (by simpa using h)] at he
        cases he
  have a1 : ∀ {i : Nat} {E : Thing} {X : Thing}, i < l.length → l[i]? = some E → (l ++ [X])[i]? = some E := fun hi he => by rw [List.getElem?_append_left hi]; exact he
  have a2 : ∀ {X : Thing}, (l ++ [X])[l.length]? = some X := fun {X} => by rw [List.getElem?_append_right (Nat.le_refl _), Nat.sub_self]; rfl
  refine ⟨h1.size, h1.below, fun i E he => ?_, fun i E he => ?_, fun i j E G he hg hij q hq hq' => ?_⟩
  · rcases c3 i E he with ⟨hi, he⟩ | ⟨rfl, rfl⟩ | ⟨rfl, rfl⟩
    · exact h1.ok i E (a1 hi he)
    · exact h1.ok _ _ a2
    · exact h2.ok l.length _ a2
  · rcases c3 i E he with ⟨hi, he⟩ | ⟨rfl, rfl⟩ | ⟨rfl, rfl⟩
    · exact h1.has i E (a1 hi he)
    · exact h1.has _ _ a2
    · exact h2.has l.length _ a2
  · rcases c3 i E he with ⟨hi, he'⟩ | ⟨rfl, rfl⟩ | ⟨rfl, rfl⟩ <;> rcases c3 j G hg with ⟨hj, hg'⟩ | ⟨rfl, rfl⟩ | ⟨rfl, rfl⟩
    · exact h1.apart i j E G (a1 hi he') (a1 hj hg') hij q hq hq'
    · exact h1.apart i l.length E _ (a1 hi he') a2 (by omega) q hq hq'
    · exact h2.apart i l.length E _ (a1 hi he') a2 (by omega) q hq hq'
    · exact h1.apart j l.length G _ (a1 hj hg') a2 (by omega) q hq' hq
    · omega
    · exact hab q hq hq'
    · exact h2.apart j l.length G _ (a1 hj hg') a2 (by omega) q hq' hq
    · exact hab q hq' hq
    · omega

section
variable {W w w' : World} {p c b : Nat} {v : Value} {C : List Int} {L : List Ev} {R : List Thing} {kd e x s : Int}

/-- Two that came last stand second and third. -/
theorem Hold.third {a b c : Thing} {R : List Thing} (h : Hold W w (a :: R ++ [b, c])) : Hold W w (a :: b :: c :: R) :=
  h.sel (fun i => if i = 0 then 0 else if i = 1 then R.length + 1 else if i = 2 then R.length + 2 else i - 2) (fun i A hi => by
    match i with
    | 0 => exact hi
    | 1 =>
      show (a :: R ++ [b, c])[R.length + 1]? = some A
      rw [List.getElem?_append_right (by simp)]
      simpa using hi
    | 2 =>
      show (a :: R ++ [b, c])[R.length + 2]? = some A
      rw [List.getElem?_append_right (by simp)]
      simpa using hi
    | i + 3 =>
      show (a :: R ++ [b, c])[i + 1]? = some A
      have hi' : R[i]? = some A := hi
      have hl : i < R.length := by
        rcases Nat.lt_or_ge i R.length with h | h
        · exact h
        · rw [List.getElem?_eq_none h] at hi'
          cases hi'
      rw [List.getElem?_append_left (by show i + 1 < R.length + 1; omega)]
      exact hi') (fun i j hi hj he => by
    have hi' : i < R.length + 3 := hi
    have hj' : j < R.length + 3 := hj
    split at he <;> split at he <;> (try split at he) <;> (try split at he) <;> (try split at he) <;> (try split at he) <;> omega)

theorem PuHold.tbegun {bp b1 b2 : Nat} {k : Pu} (h : Hold W w (tMem W.heap.size p c v C L :: R)) (hb : Below w.heap.size w w') (ho : IsObj w' b (taskL kd e x s (wPut bp))) (hk : IsPu w' bp b1 b2 k) (hn : ∀ i, TpB b bp b1 b2 i → w.heap.size ≤ i) (hne : ¬ PuB bp b1 b2 b) :
    PuHold W w' p c v C L bp b1 b2 k (tTask W b kd e x s (wPut bp) :: R) :=
  Hold.third (Hold.join (Hold.more h hb (tPu_ok W.heap.size bp b1 b2 k) ⟨hk, fun i hi => Nat.le_trans h.size (hn i (.inr hi))⟩ (fun i hi => hn i (.inr hi)))
    (Hold.more h hb (tObj_ok W.heap.size b (taskL kd e x s (wPut bp))) ⟨ho, Nat.le_trans h.size (hn b (.inl rfl))⟩ (fun i hi => hn i (.inl hi))) (fun q hq hb => hne (by have hb' : q = b := hb; exact hb' ▸ hq)))
theorem GeH.tbegun {bg bs gs : Nat} {k : Ge} (h : Hold W w (tMem W.heap.size p c v C L :: R)) (hb : Below w.heap.size w w') (ho : IsObj w' b (taskL kd e x s (wGet bg))) (hk : IsGe W.heap.size w' bg bs gs none k) (hn : ∀ i, i = b ∨ GeB bg bs gs none i → w.heap.size ≤ i) (hne : ¬ GeB bg bs gs none b) :
    GeH W w' p c C L bg k (tTask W b kd e x s (wGet bg) :: R) :=
  ⟨v, bs, gs, none, Hold.third (Hold.join (Hold.more h hb (tGe_ok W.heap.size bg bs gs none k) hk (fun i hi => hn i (.inr hi)))
    (Hold.more h hb (tObj_ok W.heap.size b (taskL kd e x s (wGet bg))) ⟨ho, Nat.le_trans h.size (hn b (.inl rfl))⟩ (fun i hi => hn i (.inl hi))) (fun q hq hb => hne (by have hb' : q = b := hb; exact hb' ▸ hq)))⟩
end

def kP : Pu := pu0 1 1 0 0 0 0 7 0
def kPC : List Int := List.replicate 4 0

theorem kP_ok : kP.Ok 1 0 3 2 kPC := pu0_ok lay11 rfl rfl rfl (by decide) (by decide) rfl (by decide) (by decide) (by decide) (by decide) (by decide) (by decide) (by decide) (by decide) (by decide) (by decide)

end

section
open Go.RowKit
set_option linter.unusedVariables false

/-- What does it. -/
inductive Wk where
  | pu (k : Pu)
  | ge (k : Ge)

/-- Of a thread: how many places there are, its first place, the first number's cell, the first hazard's, its own hazard's. -/
structure Pl where
  N : Nat
  m : Int
  nb : Nat
  h0 : Nat
  hw : Nat

def Wk.ph : Wk → Int
  | .pu k => k.ph
  | .ge k => k.ph
def Wk.step (T : Wk) (P : Pl) (C : List Int) (now z : Int) : Wk := match T with
  | .pu k => .pu (k.step P.m P.nb P.h0 C now)
  | .ge k => .ge (k.step P.N P.hw C z)
def Wk.cells (T : Wk) (P : Pl) (C : List Int) (now : Int) : List Int := match T with
  | .pu k => k.cells P.N P.nb C now
  | .ge k => k.cells P.N P.hw C
def Wk.ev (T : Wk) (P : Pl) (C : List Int) (now : Int) : List Ev := match T with
  | .pu k => k.ev P.N P.nb P.h0 C now
  | .ge k => k.ev P.N P.hw C
def Wk.ask (T : Wk) (C : List Int) (z : Int) : Prop := match T with
  | .pu _ => True
  | .ge k => k.ask C z
def Wk.Ok (T : Wk) (P : Pl) (C : List Int) : Prop := match T with
  | .pu k => k.Ok P.N P.m P.nb P.h0 C
  | .ge k => k.Ok P.N P.hw C ∧ (k.ph = 1 → k.ta ≠ none)
def Wk.reply (T : Wk) : Value := match T with
  | .pu k => k.reply
  | .ge k => k.reply

section
variable {T : Wk} {P : Pl} {C : List Int} {now z : Int}

theorem Wk.rest (h : T.ph ≠ 0) : T.step P C now z = T ∧ T.cells P C now = C ∧ T.ev P C now = [] ∧ T.ask C z := by
  cases T with
  | pu k =>
    have h' : k.ph ≠ 0 := h
    refine ⟨?_, ?_, ?_, trivial⟩
    · show Wk.pu (k.step P.m P.nb P.h0 C now) = _
      rw [show k.step P.m P.nb P.h0 C now = k from if_pos h']
    · exact if_pos h'
    · exact if_pos h'
  | ge k =>
    have h' : k.ph ≠ 0 := h
    refine ⟨?_, ?_, ?_, fun h => absurd h h'⟩
    · show Wk.ge (k.step P.N P.hw C z) = _
      rw [show k.step P.N P.hw C z = k from if_pos h']
    · exact if_pos h'
    · exact if_pos h'
theorem Wk.cells_len : (T.cells P C now).length = C.length := by
  cases T with
  | pu k => exact k.cells_len P.N P.nb C now
  | ge k => exact k.cells_len P.N P.hw C
theorem Wk.ev_le : (T.ev P C now).length ≤ 1 := by
  cases T with
  | pu k => exact k.ev_le P.N P.nb P.h0 C now
  | ge k => exact k.ev_le P.N P.hw C
theorem Ge.has_step {k : Ge} {N hz : Nat} (h : k.ph = 1 → k.ta ≠ none) : (k.step N hz C z).ph = 1 → (k.step N hz C z).ta ≠ none := by
  unfold Ge.step
  split
  · exact h
  · rename_i hp
    have hp0 : k.ph = 0 := Classical.not_not.1 hp
    split
    · rename_i hta
      unfold Ge.read
      split
      · intro h1
        have h1' : k.ph = 1 := h1
        omega
      · split
        · intro h1
          exact absurd h1 (by simp)
        · intro _ h1
          cases h1
    · unfold Ge.grab
      split
      · intro _ h1
        cases h1
      · split
        · intro h1
          have h1' : k.ph = 1 := h1
          omega
        · intro _ h1
          cases h1
end

/-- Cells and a task at b, and what else the call holds. -/
def TsH (W w : World) (p c : Nat) (C : List Int) (L : List Ev) (b : Nat) (kd e x s : Int) (T : Wk) (R : List Thing) : Prop := match T with
  | .pu k => ∃ v bp b1 b2, PuHold W w p c v C L bp b1 b2 k (tTask W b kd e x s (wPut bp) :: R)
  | .ge k => ∃ bg, GeH W w p c C L bg k (tTask W b kd e x s (wGet bg) :: R)

section
variable {W w w' : World} {p c b : Nat} {C : List Int} {L : List Ev} {T : Wk} {R : List Thing} {kd e x s : Int}

theorem TsH.later (h : TsH W w p c C L b kd e x s T R) (k : Below w.heap.size w w') : TsH W w' p c C L b kd e x s T R := by
  cases T with
  | pu k' =>
    obtain ⟨v, bp, b1, b2, h⟩ := h
    exact ⟨v, bp, b1, b2, h.later k⟩
  | ge k' =>
    obtain ⟨bg, h⟩ := h
    exact ⟨bg, h.later k⟩
theorem TsH.drew (h : TsH W w p c C L b kd e x s T R) : TsH W w.drew p c C L b kd e x s T R := h.later (Below.refl _ _).drew
theorem TsH.below (h : TsH W w p c C L b kd e x s T R) : Below W.heap.size W w := by
  cases T with
  | pu k' =>
    obtain ⟨v, bp, b1, b2, h⟩ := h
    exact h.below
  | ge k' =>
    obtain ⟨bg, h⟩ := h
    exact h.below
theorem TsH.size (h : TsH W w p c C L b kd e x s T R) : W.heap.size ≤ w.heap.size := h.below.size
theorem TsH.mem (h : TsH W w p c C L b kd e x s T R) : ∃ v, IsMem W.heap.size w p c v C L := by
  cases T with
  | pu k' =>
    obtain ⟨v, bp, b1, b2, h⟩ := h
    exact ⟨v, h.mem⟩
  | ge k' =>
    obtain ⟨bg, h⟩ := h
    exact h.mem
theorem TsH.fit (h : TsH W w p c C L b kd e x s T R) : ∀ j, 0 ≤ C.getD j 0 ∧ C.getD j 0 ≤ 18446744073709551615 := by
  obtain ⟨v, h⟩ := h.mem
  exact h.fit
theorem TsH.over (h : TsH W w p c C L b kd e x s T R) : Calls Tryz.prog 75 #[pt b] w fun r w' => r = .returned (.bool (T.ph != 0)) ∧ Below w.heap.size w w' := by
  cases T with
  | pu k' =>
    obtain ⟨v, bp, b1, b2, h⟩ := h
    exact quiet_below (tover_put h.obj h.pu)
  | ge k' =>
    obtain ⟨bg, h⟩ := h
    exact quiet_below h.tover
theorem TsH.obj (h : TsH W w p c C L b kd e x s T R) : ∃ wk, IsObj w b (taskL kd e x s wk) := by
  cases T with
  | pu k' =>
    obtain ⟨v, bp, b1, b2, h⟩ := h
    exact ⟨_, h.obj⟩
  | ge k' =>
    obtain ⟨bg, h⟩ := h
    exact ⟨_, h.obj⟩
theorem TsH.reply {P : Pl} (h : TsH W w p c C L b kd e x s T R) (hk : T.Ok P C) : Calls Tryz.prog 61 #[pt b] w fun r w' => r = .returned T.reply ∧ Below w.heap.size w w' := by
  cases T with
  | pu k' =>
    obtain ⟨v, bp, b1, b2, h⟩ := h
    exact h.treply
  | ge k' =>
    obtain ⟨bg, h⟩ := h
    exact h.treply hk.2
/-- A step. -/
theorem TsH.step {P : Pl} {now : Int} (h : TsH W w p c C L b kd e x s T R) (hk : T.Ok P C) (n0 : 0 ≤ now) (hL : L.length < 1000000000) :
    Calls Tryz.prog 60 #[pt b, pt p, i64 now] w fun r w' => ∃ z, T.ask C z ∧ r = .returned (.bool ((T.step P C now z).ph != 0)) ∧ TsH W w' p c (T.cells P C now) (L ++ T.ev P C now) b kd e x s (T.step P C now z) R := by
  cases T with
  | pu k' =>
    obtain ⟨v, bp, b1, b2, h⟩ := h
    refine (h.tstep hk n0 hL).mono ?_
    rintro r w' ⟨h1, v', h2⟩
    exact ⟨0, trivial, h1, v', bp, b1, b2, h2⟩
  | ge k' =>
    obtain ⟨bg, h⟩ := h
    refine (h.tstep hk.1 hL).mono ?_
    rintro r w' ⟨z, h0, h1, h2⟩
    exact ⟨z, h0, h1, bg, h2⟩
end

/-- A task that is begun. -/
def wk0 (t s so d who : Int) (take : Bool) (e x start m : Int) (N : Nat) : Wk := if take then .ge (ge0 t s so d who e start N) else .pu (pu0 t s so d who e x m)
abbrev kdI (take : Bool) : Int := if take then 1 else 0
theorem TsH.begun {W w : World} {p c : Nat} {v : Value} {C : List Int} {L : List Ev} {R : List Thing} {t s so d who e x start m : Int} {N : Nat} (take : Bool) {kd : Int} (hk : kdI take = kd) (h : Hold W w (tMem W.heap.size p c v C L :: R)) (hl : Lay t s N) (w0 : 0 ≤ who) (w1 : who < t) (hm : who * s = m) (m0 : 0 ≤ m) (m1 : m + s ≤ N) (he : e = 0 ∨ e = 1) :
    Calls Tryz.prog 59 #[cf t s so d, i64 who, callV kd e x start] w fun r w' => ∃ b, r = .returned (pt b) ∧ TsH W w' p c C L b kd e x start (wk0 t s so d who take e x start m N) R := by
  subst hk
  cases take with
  | false =>
    refine (tknew_put t s so d who e x start m hl w0 w1 hm m0 m1 he).mono ?_
    rintro r w' ⟨b, bp, b1, b2, h1, h2, h3, h4, h5, h6⟩
    exact ⟨b, h1, v, bp, b1, b2, PuHold.tbegun h h4 h2 h3 h5 h6⟩
  | true =>
    refine (tknew_get (base := W.heap.size) t s so d who e x start hl he h.size).mono ?_
    rintro r w' ⟨b, bg, bs, gs, h1, h2, h3, h4, h5, h6⟩
    exact ⟨b, h1, bg, GeH.tbegun h h4 h2 h3 h5 h6⟩

/-- Whether it gets. -/
def Wk.take : Wk → Bool
  | .pu _ => false
  | .ge _ => true
theorem Wk.take_step {T : Wk} {P : Pl} {C : List Int} {now z : Int} : (T.step P C now z).take = T.take := by
  cases T <;> rfl
theorem wk0_take {t s so d who e x start m : Int} {N : Nat} (take : Bool) : (wk0 t s so d who take e x start m N).take = take := by
  cases take <;> rfl
theorem Wk.reply_form (T : Wk) : ∃ ok v lo hi, T.reply = replyV ok v lo hi ∧ (T.take = true → lo = 0 ∧ hi = 0) ∧ (T.take = false → v = 0) := by
  cases T with
  | pu k =>
    show ∃ ok v lo hi, k.reply = replyV ok v lo hi ∧ (false = true → lo = 0 ∧ hi = 0) ∧ (false = false → v = 0)
    unfold Pu.reply
    split
    · exact ⟨_, _, _, _, rfl, (fun h => by cases h), fun _ => rfl⟩
    · exact ⟨_, _, _, _, rfl, (fun h => by cases h), fun _ => rfl⟩
  | ge k =>
    show ∃ ok v lo hi, k.reply = replyV ok v lo hi ∧ (true = true → lo = 0 ∧ hi = 0) ∧ (true = false → v = 0)
    unfold Ge.reply
    split
    · exact ⟨_, _, _, _, rfl, fun _ => ⟨rfl, rfl⟩, (fun h => by cases h)⟩
    · exact ⟨_, _, _, _, rfl, fun _ => ⟨rfl, rfl⟩, (fun h => by cases h)⟩

section
variable {W w w' : World} {p c b : Nat} {C : List Int} {L : List Ev} {T : Wk} {R : List Thing} {kd e x s : Int} {A : Thing}
theorem TsH.more (h : TsH W w p c C L b kd e x s T R) (k : Below w.heap.size w w') (ok : A.Ok W.heap.size) (hP : A.P w') (hF : ∀ q, A.F q → w.heap.size ≤ q) : TsH W w' p c C L b kd e x s T (R ++ [A]) := by
  cases T with
  | pu k' =>
    obtain ⟨v, bp, b1, b2, h⟩ := h
    exact ⟨v, bp, b1, b2, Hold.more (l := _ :: _ :: _ :: R) h k ok hP hF⟩
  | ge k' =>
    obtain ⟨bg, v, bs, gs, bt, h⟩ := h
    exact ⟨bg, v, bs, gs, bt, Hold.more (l := _ :: _ :: _ :: R) h k ok hP hF⟩
theorem TsH.at (h : TsH W w p c C L b kd e x s T R) (i : Nat) (hi : R[i]? = some A) : A.P w := by
  cases T with
  | pu k' =>
    obtain ⟨v, bp, b1, b2, h⟩ := h
    exact Hold.has h (i + 3) A hi
  | ge k' =>
    obtain ⟨bg, v, bs, gs, bt, h⟩ := h
    exact Hold.has h (i + 3) A hi
end

/-- A task that is done alone, behind n steps (of which some may have been for nothing). -/
def TsA (T : Wk) (P : Pl) (C C0 : List Int) (n : Nat) (e : Int) : Prop := match T with
  | .pu k => k.Ok P.N P.m P.nb P.h0 C ∧ (k.ph = 0 → (n : Int) + k.rem P.m ≤ 27)
  | .ge k => GX k C C0 P.N P.hw n e ∧ (k.ph = 1 → k.ta ≠ none)
section
variable {T : Wk} {P : Pl} {C C0 : List Int} {n : Nat} {e now z : Int}
theorem TsA.ok (h : TsA T P C C0 n e) : T.Ok P C := by
  cases T with
  | pu k => exact h.1
  | ge k => exact ⟨h.1.ok, h.2⟩
theorem TsA.step (h : TsA T P C C0 n e) (ha : T.ask C z) (n0 : 0 ≤ now) (hf : ∀ j, 0 ≤ C.getD j 0 ∧ C.getD j 0 ≤ 18446744073709551615) : TsA (T.step P C now z) P (T.cells P C now) C0 (n + 1) e := by
  cases T with
  | pu k =>
    have h1 : k.Ok P.N P.m P.nb P.h0 C := h.1
    have h2 : k.ph = 0 → (n : Int) + k.rem P.m ≤ 27 := h.2
    obtain ⟨o1, o2⟩ := h1.next_ (now := now) n0 (fun j => (hf j).1)
    refine ⟨o1.cells (k.cells_len _ _ _ _), fun hp => ?_⟩
    have hp' : (k.step P.m P.nb P.h0 C now).ph = 0 := hp
    have hk : k.ph = 0 := by
      by_cases hk : k.ph = 0
      · exact hk
      · rw [show k.step P.m P.nb P.h0 C now = k from if_pos hk] at hp'
        exact absurd hp' hk
    have := o2 hk
    have := h2 hk
    show ((n + 1 : Nat) : Int) + (k.step P.m P.nb P.h0 C now).rem P.m ≤ 27
    omega
  | ge k => exact ⟨GX.step h.1 ha hf, Ge.has_step h.2⟩
theorem TsA.over (h : TsA T P C C0 n e) (hN : P.N ≤ 16) (hn : 40 ≤ n) : T.ph ≠ 0 := by
  cases T with
  | pu k =>
    intro hp
    have h1 : k.Ok P.N P.m P.nb P.h0 C := h.1
    have h2 := h.2 hp
    have := Pu.rem_pos h1 hp
    omega
  | ge k =>
    show k.ph ≠ 0
    rcases h.1.done (by omega) with ⟨h1, _⟩ | ⟨j, h1, _⟩ <;> omega
end

theorem u64_wf {a : Int} (h : (Lit.int .u64 a).wf = true) : 0 ≤ a ∧ a ≤ 18446744073709551615 := by
  simp only [Lit.wf, Bool.and_eq_true, decide_eq_true_eq] at h
  exact h
theorem TsH.rest {W w : World} {p c b : Nat} {C : List Int} {L : List Ev} {T : Wk} {R : List Thing} {kd e x s : Int} {P : Pl} {now : Int} (h : TsH W w p c C L b kd e x s T R) (hk : T.Ok P C) (n0 : 0 ≤ now) (hL : L.length < 1000000000) (hp : T.ph ≠ 0) :
    Calls Tryz.prog 60 #[pt b, pt p, i64 now] w fun r w' => r = .returned (.bool true) ∧ TsH W w' p c C L b kd e x s T R := by
  refine (h.step hk n0 hL).mono ?_
  rintro r w' ⟨z, _, h1, h2⟩
  obtain ⟨r1, r2, r3, _⟩ := Wk.rest (P := P) (C := C) (now := now) (z := z) hp
  rw [r1] at h1 h2
  rw [r2, r3, List.append_nil] at h2
  exact ⟨by rw [h1, show (T.ph != 0) = true by simp [hp]], h2⟩
theorem TsH.over' {W w : World} {p c b : Nat} {C : List Int} {L : List Ev} {T : Wk} {R : List Thing} {kd e x s : Int} (h : TsH W w p c C L b kd e x s T R) (q : Bool) (hq : (T.ph != 0) = q) : Calls Tryz.prog 75 #[pt b] w fun r w' => r = .returned (.bool q) ∧ Below w.heap.size w w' := hq ▸ h.over
theorem TsA.start {t s so d who e x start m : Int} {N nb h0 hw : Nat} {C : List Int} (take : Bool) (hl : Lay t s N) (hlen : (C.length : Int) = 2 * N + 2 * t) (t4 : t ≤ 4) (s4 : s ≤ 4) (hh0 : (h0 : Int) = 2 * N) (hhw : (hw : Int) = 2 * N + who) (hnb : (nb : Int) = 2 * N + t) (w0 : 0 ≤ who) (w1 : who < t) (hm : who * s = m) (m0 : 0 ≤ m) (m1 : m + s ≤ N)
    (o0 : 0 ≤ so) (o1 : so ≤ 4) (d0 : 0 ≤ d) (d1 : d ≤ 3) (he : e = 0 ∨ e = 1) (x0 : 0 ≤ x) (x1 : x ≤ 18446744073709551615) : TsA (wk0 t s so d who take e x start m N) ⟨N, m, nb, h0, hw⟩ C C 0 e := by
  cases take with
  | false =>
    refine ⟨pu0_ok (nb := nb) hl hh0 hnb (by omega) w0 w1 hm m0 m1 o0 o1 d0 (by omega) (by omega) (by omega) x0 x1, fun _ => ?_⟩
    show ((0 : Nat) : Int) + (pu0 t s so d who e x m).rem m ≤ 27
    rw [pu0_rem]
    obtain ⟨Q, q, h1, h2, h3, h4, h5, h6⟩ := pmost_le (so := so) hl.t1 t4 hl.s1 s4 d0 d1
    omega
  | true => exact ⟨GX.start hl hlen hhw w0 w1 he, fun h => by exact absurd h (by show ¬ (0 : Int) = 1; decide)⟩
end

section
open Go.RowKit
set_option linter.unusedVariables false

/-- Where the machine of a task lies. -/
inductive TB where
  | pu (bp b1 b2 : Nat)
  | ge (bg bs gs : Nat) (bt : Option Nat)
def TB.F (B : TB) (i : Nat) : Prop := match B with
  | .pu bp b1 b2 => PuB bp b1 b2 i
  | .ge bg bs gs bt => GeB bg bs gs bt i
def TB.wk (B : TB) : Value := match B with
  | .pu bp _ _ => wPut bp
  | .ge bg _ _ _ => wGet bg
def isMa (base : Nat) (w : World) (B : TB) (T : Wk) : Prop := match B, T with
  | .pu bp b1 b2, .pu k => IsPu w bp b1 b2 k ∧ ∀ i, PuB bp b1 b2 i → base ≤ i
  | .ge bg bs gs bt, .ge k => IsGe base w bg bs gs bt k
  | .pu _ _ _, .ge _ => False
  | .ge _ _ _ _, .pu _ => False
/-- A task, and where it lies. -/
structure WT where
  b : Nat
  B : TB
  kd : Int
  e : Int
  x : Int
  s : Int
  T : Wk
def wT (base : Nat) (y : WT) : Thing := ⟨fun w => IsObj w y.b (taskL y.kd y.e y.x y.s y.B.wk) ∧ base ≤ y.b ∧ ¬ y.B.F y.b ∧ isMa base w y.B y.T, fun i => i = y.b ∨ y.B.F i⟩

section
variable {base : Nat} {w w' : World} {B : TB} {T : Wk} {y : WT}
theorem isMa.keep {Q : Nat → Prop} (h : isMa base w B T) (e : Keep Q w w') (hn : ∀ i, B.F i → ¬ Q i) : isMa base w' B T := by
  cases B with
  | pu bp b1 b2 =>
    cases T with
    | pu k => exact ⟨h.1.keep e (hn _ (.inl rfl)) (hn _ (.inr (.inl rfl))) (hn _ (.inr (.inr rfl))), h.2⟩
    | ge k => exact h.elim
  | ge bg bs gs bt =>
    cases T with
    | pu k => exact h.elim
    | ge k => exact IsGe.keep h e hn
theorem isMa.lt (h : isMa base w B T) : ∀ i, B.F i → base ≤ i ∧ i < w.heap.size := by
  cases B with
  | pu bp b1 b2 =>
    cases T with
    | pu k => exact fun i hi => ⟨h.2 i hi, h.1.lt i hi⟩
    | ge k => exact h.elim
  | ge bg bs gs bt =>
    cases T with
    | pu k => exact h.elim
    | ge k => exact fun i hi => IsGe.lt h i hi
theorem wT_ok (base : Nat) (y : WT) : (wT base y).Ok base :=
  ⟨fun _ _ _ h e hn => ⟨h.1.keep e (hn y.b (.inl rfl)), h.2.1, h.2.2.1, h.2.2.2.keep e (fun i hi => hn i (.inr hi))⟩, fun _ i h hi => by
    rcases hi with rfl | hi
    · exact ⟨h.2.1, h.1.lt⟩
    · exact h.2.2.2.lt i hi⟩
end

section
variable {W w w' : World} {l : List Thing} {p c : Nat} {v : Value} {C : List Int} {L : List Ev} {y : WT}

/-- One task of many, alone. -/
theorem Hold.task (h : Hold W w l) (i j : Nat) (hne : i ≠ j) (hi : l[i]? = some (tMem W.heap.size p c v C L)) (hj : l[j]? = some (wT W.heap.size y)) : TsH W w p c C L y.b y.kd y.e y.x y.s y.T [] := by
  obtain ⟨b, B, kd, e, x, s, T⟩ := y
  have hm := h.has i _ hi
  obtain ⟨h1, h2, h3, h4⟩ := h.has j _ hj
  have hap := h.apart i j _ _ hi hj hne
  have three : ∀ {A : Thing}, A.Ok W.heap.size → A.P w → (∀ q, A.F q ↔ B.F q) → Hold W w [tMem W.heap.size p c v C L, A, tTask W b kd e x s B.wk] := fun {A} ok hP hF =>
    ⟨h.size, h.below, fun i E he => by
      match i with
      | 0 => cases he; exact tMem_ok _ _ _ _ _ _
      | 1 => cases he; exact ok
      | 2 => cases he; exact tObj_ok _ _ _
      | i + 3 => simp at he, fun i E he => by
      match i with
      | 0 => cases he; exact hm
      | 1 => cases he; exact hP
      | 2 => cases he; exact ⟨h1, h2⟩
      | i + 3 => simp at he, fun i j E G he hg hij q hq hq' => by
      have a1 : ∀ q, Foot p c v q → ¬ (q = b ∨ B.F q) := hap
      match i, j with
      | 0, 0 => exact hij rfl
      | 1, 1 => exact hij rfl
      | 2, 2 => exact hij rfl
      | 0, 1 => cases he; cases hg; exact a1 q hq (.inr ((hF q).1 hq'))
      | 0, 2 => cases he; cases hg; exact a1 q hq (.inl hq')
      | 1, 0 => cases he; cases hg; exact a1 q hq' (.inr ((hF q).1 hq))
      | 2, 0 => cases he; cases hg; exact a1 q hq' (.inl hq)
      | 1, 2 => cases he; cases hg; have hq2 : q = b := hq'; exact h3 (hq2 ▸ (hF q).1 hq)
      | 2, 1 => cases he; cases hg; have hq2 : q = b := hq; exact h3 (hq2 ▸ (hF q).1 hq')
      | i + 3, _ => simp at he
      | _, j + 3 => simp at hg⟩
  cases B with
  | pu bp b1 b2 =>
    cases T with
    | pu k => exact ⟨v, bp, b1, b2, three (tPu_ok W.heap.size bp b1 b2 k) h4 (fun q => Iff.rfl)⟩
    | ge k => exact h4.elim
  | ge bg bs gs bt =>
    cases T with
    | pu k => exact h4.elim
    | ge k => exact ⟨bg, v, bs, gs, bt, three (tGe_ok W.heap.size bg bs gs bt k) h4 (fun q => Iff.rfl)⟩

set_option maxRecDepth 100000 in
set_option maxHeartbeats 2000000 in
/-- A step of the machine is a step of the task. -/
theorem mastep_put {Q : World → Prop} {b bp b1 b2 : Nat} {kd e x s now : Int} {k' : Pu} (h : IsObj w b (taskL kd e x s (wPut bp)))
    (hq : ∀ w', Q w' → IsObj w' b (taskL kd e x s (wPut bp)) ∧ IsPu w' bp b1 b2 k')
    (hin : Calls Tryz.prog 73 #[pt bp, pt p, i64 now] w fun r w' => r = .returned (i64 k'.ph) ∧ Q w') :
    Calls Tryz.prog 60 #[pt b, pt p, i64 now] w fun r w' => r = .returned (.bool (k'.ph != 0)) ∧ Q w' := by
  have c4 := h.task.c4
  have HC := Lib.hid hin
  have HQ := Lib.hid hq
  have a1 := as_put_put w (pt bp)
  clear h hin hq
  go_enter Tryz.func60, Tryz.ntmps60
  go_wp2_with fail
  refine HC.out.mono ?_
  rintro r w1 ⟨rfl, hH⟩
  have HO := Lib.hid (tover_put (HQ.out _ hH).1 (HQ.out _ hH).2)
  have HH := Lib.hid hH
  clear hH c4 a1
  go_wp2_with fail
  refine HO.out.mono ?_
  rintro r w2 ⟨rfl, rfl⟩
  go_wp2
  go_ret
  exact ⟨rfl, HH.out⟩
set_option maxRecDepth 100000 in
set_option maxHeartbeats 2000000 in
theorem mastep_get {Q : Int → World → Prop} {f : Int → Ge} {b bg : Nat} {kd e x s now : Int} (h : IsObj w b (taskL kd e x s (wGet bg)))
    (hq : ∀ z w', Q z w' → IsObj w' b (taskL kd e x s (wGet bg)) ∧ ∃ base bs gs bt, IsGe base w' bg bs gs bt (f z))
    (hin : Calls Tryz.prog 74 #[pt bg, pt p] w fun r w' => ∃ z, r = .returned (i64 (f z).ph) ∧ Q z w') :
    Calls Tryz.prog 60 #[pt b, pt p, i64 now] w fun r w' => ∃ z, r = .returned (.bool ((f z).ph != 0)) ∧ Q z w' := by
  have c4 := h.task.c4
  have HC := Lib.hid hin
  have HQ := Lib.hid hq
  have a1 := as_get_put w (pt bg)
  have a2 := as_get_get w (pt bg)
  clear h hin hq
  go_enter Tryz.func60, Tryz.ntmps60
  go_wp2_with fail
  refine HC.out.mono ?_
  rintro r w1 ⟨z, rfl, hH⟩
  obtain ⟨g1, base, bs, gs, bt, g2⟩ := HQ.out z _ hH
  have HO := Lib.hid (tover_get g1 g2)
  have HH := Lib.hid hH
  clear hH c4 a1 a2 g1 g2
  go_wp2_with fail
  refine HO.out.mono ?_
  rintro r w2 ⟨rfl, rfl⟩
  go_wp2
  go_ret
  exact ⟨z, rfl, HH.out⟩

/-- A step of one of many. -/
theorem Hold.tstep {P : Pl} {now : Int} (h : Hold W w l) (i j : Nat) (hne : i ≠ j) (hi : l[i]? = some (tMem W.heap.size p c v C L)) (hj : l[j]? = some (wT W.heap.size y)) (hk : y.T.Ok P C) (n0 : 0 ≤ now) (hL : L.length < 1000000000) :
    Calls Tryz.prog 60 #[pt y.b, pt p, i64 now] w fun r w' => ∃ z, y.T.ask C z ∧ r = .returned (.bool ((y.T.step P C now z).ph != 0)) ∧ ∃ v' B', Hold W w' ((l.set i (tMem W.heap.size p c v' (y.T.cells P C now) (L ++ y.T.ev P C now))).set j (wT W.heap.size ⟨y.b, B', y.kd, y.e, y.x, y.s, y.T.step P C now z⟩)) := by
  obtain ⟨b, B, kd, e, x, s, T⟩ := y
  have hm := h.has i _ hi
  obtain ⟨h1, h2, h3, h4⟩ := h.has j _ hj
  have hap := Hold.free h i j hne hi hj
  have hlj : ∀ {l' : List Thing}, l'.length = l.length → j < l'.length := fun e => by rw [e]; exact (List.getElem?_eq_some_iff.1 hj).1
  cases B with
  | pu bp b1 b2 =>
    cases T with
    | ge k => exact h4.elim
    | pu k =>
      have hin := pustep_any W.heap.size w bp b1 b2 p c v C L k P.N P.m P.nb P.h0 now hk n0 h4.1 hm (fun q hq => hap q (.inr hq)) h.size hL
      refine (mastep_put (k' := k.step P.m P.nb P.h0 C now) (Q := fun w' => ∃ v', Hold W w' ((l.set i (tMem W.heap.size p c v' (k.cells P.N P.nb C now) (L ++ k.ev P.N P.nb P.h0 C now))).set j (wT W.heap.size ⟨b, .pu bp b1 b2, kd, e, x, s, .pu (k.step P.m P.nb P.h0 C now)⟩))) (b1 := b1) (b2 := b2) h1 (fun w' hq => ?_) (hin.mono ?_)).mono ?_
      · obtain ⟨v', hh⟩ := hq
        have h5 := hh.has j _ (List.getElem?_set_self (hlj (by rw [List.length_set])))
        exact ⟨h5.1, h5.2.2.2.1⟩
      · rintro r w' ⟨g1, v', hD, hO⟩
        refine ⟨g1, v', ?_⟩
        refine h.turn2 i j hne hi hj (hD.keep.mono (fun q hq => ?_)) (tMem_ok _ _ _ _ _ _) (wT_ok _ _) hD.mem ⟨h1.keep hD.keep (fun hq => ?_), h2, h3, hO, h4.2⟩ (fun q hq => ?_) (fun q hq => hq)
        · rcases hq with hq | hq
          · exact .inl (.inr hq)
          · exact .inr hq
        · rcases hq with hq | hq
          · exact h3 hq
          · exact hap b (.inl rfl) hq
        · rcases hq with h1 | h1 | h1
          · exact .inl (.inl h1)
          · exact .inl (.inr (.inl h1))
          · exact (hD.moved q h1).imp (fun h => .inr (.inr h)) id
      · rintro r w' ⟨g1, v', g2⟩
        exact ⟨0, trivial, g1, v', _, g2⟩
  | ge bg bs gs bt =>
    cases T with
    | pu k => exact h4.elim
    | ge k =>
      have hin := gestep_any W.heap.size w bg bs gs p c bt v C L k P.N P.hw hk.1 h4 hm (fun q hq => hap q (.inr hq)) h.size hL
      refine (mastep_get (f := fun z => k.step P.N P.hw C z) (Q := fun z w' => k.ask C z ∧ ∃ v' bs' gs' bt', Hold W w' ((l.set i (tMem W.heap.size p c v' (k.cells P.N P.hw C) (L ++ k.ev P.N P.hw C))).set j (wT W.heap.size ⟨b, .ge bg bs' gs' bt', kd, e, x, s, .ge (k.step P.N P.hw C z)⟩))) h1 (fun z w' hq => ?_) (hin.mono ?_)).mono ?_
      · obtain ⟨_, v', bs', gs', bt', hh⟩ := hq
        have h5 := hh.has j _ (List.getElem?_set_self (hlj (by rw [List.length_set])))
        exact ⟨h5.1, _, _, _, _, h5.2.2.2⟩
      · rintro r w' ⟨z, g0, g1, v', bs', gs', bt', hD, hG, hF, hA⟩
        refine ⟨z, g1, g0, v', bs', gs', bt', ?_⟩
        have hbw : b < w.heap.size := h1.lt
        refine h.turn3 i j hne hi hj (hD.keep.mono (fun q hq => ?_)) (tMem_ok _ _ _ _ _ _) (wT_ok _ _) hD.mem ⟨h1.keep hD.keep (fun hq => ?_), h2, (fun hq => ?_), hG⟩ (fun q hq => ?_) (fun q hq => ?_) (fun q hq hg => ?_)
        · rcases hq with hq | hq
          · exact .inl (.inr hq)
          · exact .inr hq
        · rcases hq with hq | hq
          · exact h3 hq
          · exact hap b (.inl rfl) hq
        · rcases hF b hq with hq | hq
          · exact h3 hq
          · omega
        · rcases hq with h1 | h1 | h1
          · exact .inl (.inl h1)
          · exact .inl (.inr (.inl h1))
          · exact (hD.moved q h1).imp (fun h => .inr (.inr h)) id
        · rcases hq with hq | hq
          · exact .inl (.inl hq)
          · exact (hF q hq).imp (fun h => .inr h) id
        · rcases hg with hg | hg
          · have hgb : q = b := hg
            rw [hgb] at hq
            rcases hq with h1 | h1 | h1
            · exact hap b (.inl rfl) (.inl h1)
            · exact hap b (.inl rfl) (.inr (.inl h1))
            · rcases hD.moved b h1 with h | h
              · exact hap b (.inl rfl) (.inr (.inr h))
              · omega
          · exact hA q hg hq
      · rintro r w' ⟨z, g1, g0, v', bs', gs', bt', g2⟩
        exact ⟨z, g0, g1, v', _, g2⟩

/-- One more. -/
theorem Hold.tnew {t s so d who e x start m : Int} {N : Nat} (take : Bool) {kd : Int} (hk : kdI take = kd) (h : Hold W w l) (hl : Lay t s N) (w0 : 0 ≤ who) (w1 : who < t) (hm : who * s = m) (m0 : 0 ≤ m) (m1 : m + s ≤ N) (he : e = 0 ∨ e = 1) :
    Calls Tryz.prog 59 #[cf t s so d, i64 who, callV kd e x start] w fun r w' => ∃ b B, r = .returned (pt b) ∧ Hold W w' (l ++ [wT W.heap.size ⟨b, B, kd, e, x, start, wk0 t s so d who take e x start m N⟩]) ∧ Below w.heap.size w w' ∧ w.heap.size ≤ b := by
  subst hk
  cases take with
  | false =>
    refine (tknew_put t s so d who e x start m hl w0 w1 hm m0 m1 he).mono ?_
    rintro r w' ⟨b, bp, b1, b2, h1, h2, h3, h4, h5, h6⟩
    refine ⟨b, .pu bp b1 b2, h1, h.more h4 (wT_ok _ _) ⟨h2, Nat.le_trans h.size (h5 b (.inl rfl)), h6, h3, fun i hi => Nat.le_trans h.size (h5 i (.inr hi))⟩ (fun q hq => ?_), h4, h5 b (.inl rfl)⟩
    exact h5 q hq
  | true =>
    refine (tknew_get (base := W.heap.size) t s so d who e x start hl he h.size).mono ?_
    rintro r w' ⟨b, bg, bs, gs, h1, h2, h3, h4, h5, h6⟩
    refine ⟨b, .ge bg bs gs none, h1, h.more h4 (wT_ok _ _) ⟨h2, Nat.le_trans h.size (h5 b (.inl rfl)), h6, h3⟩ (fun q hq => ?_), h4, h5 b (.inl rfl)⟩
    exact h5 q hq
end

/-- A get that has read and tried so often, at most. -/
def Wk.few (T : Wk) (n : Nat) : Prop := match T with
  | .pu _ => True
  | .ge k => k.sn.passes ≤ n ∧ k.tries ≤ n
section
variable {T : Wk} {P : Pl} {C C' : List Int} {n n' : Nat} {now z : Int}
theorem Wk.Ok.cells (h : T.Ok P C) (e : C'.length = C.length) : T.Ok P C' := by
  cases T with
  | pu k => exact Pu.Ok.cells h e
  | ge k => exact ⟨Ge.Ok.cells h.1 e, h.2⟩
theorem Wk.few.mono (h : T.few n) (hn : n ≤ n') : T.few n' := by
  cases T with
  | pu k => exact trivial
  | ge k =>
    have h1 : k.sn.passes ≤ n ∧ k.tries ≤ n := h
    exact ⟨by have := h1.1; omega, by have := h1.2; omega⟩
/-- A step leaves what is right right. -/
theorem Wk.Ok.next (h : T.Ok P C) (hb : T.few n) (hn : n < 1000000) (ha : T.ask C z) (n0 : 0 ≤ now) (hf : ∀ j, 0 ≤ C.getD j 0 ∧ C.getD j 0 ≤ 18446744073709551615) : (T.step P C now z).Ok P (T.cells P C now) ∧ (T.step P C now z).few (n + 1) := by
  cases T with
  | pu k =>
    have h1 : k.Ok P.N P.m P.nb P.h0 C := h
    exact ⟨(h1.next_ (now := now) n0 (fun j => (hf j).1)).1.cells (k.cells_len _ _ _ _), trivial⟩
  | ge k =>
    have h1 : k.sn.passes ≤ n ∧ k.tries ≤ n := hb
    obtain ⟨o1, o2, o3, o4⟩ := h.1.next (z := z) ha (fun a => by have := h1.1; omega) (by have := h1.2; omega) hf
    refine ⟨⟨o1, Ge.has_step h.2⟩, ?_, ?_⟩
    · show (k.step P.N P.hw C z).sn.passes ≤ ((n + 1 : Nat) : Int)
      have := h1.1
      omega
    · show (k.step P.N P.hw C z).tries ≤ ((n + 1 : Nat) : Int)
      have := h1.2
      omega
end
/-- A task that is begun is right, whatever the cells. -/
theorem wk0_ok {t s so d who e x start m : Int} {N nb h0 hw : Nat} {C : List Int} (take : Bool) (hl : Lay t s N) (hlen : (C.length : Int) = 2 * N + 2 * t) (hh0 : (h0 : Int) = 2 * N) (hhw : (hw : Int) = 2 * N + who) (hnb : (nb : Int) = 2 * N + t) (w0 : 0 ≤ who) (w1 : who < t) (hm : who * s = m) (m0 : 0 ≤ m) (m1 : m + s ≤ N)
    (o0 : 0 ≤ so) (o1 : so ≤ 4) (d0 : 0 ≤ d) (d1 : d ≤ 100) (he : e = 0 ∨ e = 1) (x0 : 0 ≤ x) (x1 : x ≤ 18446744073709551615) : (wk0 t s so d who take e x start m N).Ok ⟨N, m, nb, h0, hw⟩ C ∧ (wk0 t s so d who take e x start m N).few 0 := by
  have t1 := hl.t1
  cases take with
  | false => exact ⟨pu0_ok (nb := nb) hl hh0 hnb (by omega) w0 w1 hm m0 m1 o0 o1 d0 d1 (by omega) (by omega) x0 x1, trivial⟩
  | true => exact ⟨⟨ge0_ok hl hlen hhw w0 w1 he, fun h => by exact absurd h (by show ¬ (0 : Int) = 1; decide)⟩, Int.le_refl _, Int.le_refl _⟩
end

section
open Go.RowKit
set_option linter.unusedVariables false

/-- An event of cells C, by who, that leaves C'. -/
structure Note1 (who : Int) (C C' : List Int) (e : Ev) : Prop where
  who' : e.who = who
  op0 : 0 ≤ e.op
  op1 : e.op ≤ 3
  c0 : 0 ≤ e.cell
  c1 : e.cell < C.length
  old : e.old = C.getD e.cell.toNat 0
  ok : e.op ≠ 2 → e.ok = true
  new : e.op = 0 ∨ e.ok = false → e.new = C.getD e.cell.toNat 0
  cells : C' = C.set e.cell.toNat e.new
def Noted (who : Int) (C C' : List Int) (E : List Ev) : Prop := (E = [] ∧ C' = C) ∨ ∃ e, E = [e] ∧ Note1 who C C' e

section
variable {who x old : Int} {C : List Int} {i : Nat}
theorem set_back {C : List Int} {i : Nat} (hi : i < C.length) : C.set i (C.getD i 0) = C := by
  refine List.ext_getElem? (fun j => ?_)
  rw [List.getElem?_set]
  split
  · rename_i h
    subst h
    rw [List.getD_eq_getElem?_getD, List.getElem?_eq_getElem hi]
    rfl
  · rfl
theorem noted_load (hi : i < C.length) : Noted who C C [⟨who, 0, (i : Nat), C.getD i 0, C.getD i 0, true⟩] :=
  .inr ⟨_, rfl, rfl, Int.le_refl _, by show (0 : Int) ≤ 3; decide, by show (0 : Int) ≤ (i : Int); omega, by show (i : Int) < C.length; omega, by show _ = C.getD (i : Int).toNat 0; rw [Int.toNat_natCast], fun _ => rfl, fun _ => by show _ = C.getD (i : Int).toNat 0; rw [Int.toNat_natCast], by show C = C.set (i : Int).toNat _; rw [Int.toNat_natCast]; exact (set_back hi).symm⟩
theorem noted_store (hi : i < C.length) : Noted who C (C.set i x) [⟨who, 1, (i : Nat), C.getD i 0, x, true⟩] :=
  .inr ⟨_, rfl, rfl, by show (0 : Int) ≤ 1; decide, by show (1 : Int) ≤ 3; decide, by show (0 : Int) ≤ (i : Int); omega, by show (i : Int) < C.length; omega, by show _ = C.getD (i : Int).toNat 0; rw [Int.toNat_natCast], fun _ => rfl, fun h => by rcases h with h | h <;> exact absurd h (by simp), by show _ = C.set (i : Int).toNat _; rw [Int.toNat_natCast]⟩
theorem noted_add (hi : i < C.length) : Noted who C (C.set i x) [⟨who, 3, (i : Nat), C.getD i 0, x, true⟩] :=
  .inr ⟨_, rfl, rfl, by show (0 : Int) ≤ 3; decide, Int.le_refl _, by show (0 : Int) ≤ (i : Int); omega, by show (i : Int) < C.length; omega, by show _ = C.getD (i : Int).toNat 0; rw [Int.toNat_natCast], fun _ => rfl, fun h => by rcases h with h | h <;> exact absurd h (by simp), by show _ = C.set (i : Int).toNat _; rw [Int.toNat_natCast]⟩
theorem noted_swap (hi : i < C.length) (ho : C.getD i 0 = old) : Noted who C (C.set i x) [⟨who, 2, (i : Nat), old, x, true⟩] :=
  .inr ⟨_, rfl, rfl, by show (0 : Int) ≤ 2; decide, by show (2 : Int) ≤ 3; decide, by show (0 : Int) ≤ (i : Int); omega, by show (i : Int) < C.length; omega, by show _ = C.getD (i : Int).toNat 0; rw [Int.toNat_natCast]; exact ho.symm, fun h => absurd rfl h, fun h => by rcases h with h | h <;> exact absurd h (by simp), by show _ = C.set (i : Int).toNat _; rw [Int.toNat_natCast]⟩
theorem noted_not (hi : i < C.length) : Noted who C C [⟨who, 2, (i : Nat), C.getD i 0, C.getD i 0, false⟩] :=
  .inr ⟨_, rfl, rfl, by show (0 : Int) ≤ 2; decide, by show (2 : Int) ≤ 3; decide, by show (0 : Int) ≤ (i : Int); omega, by show (i : Int) < C.length; omega, by show _ = C.getD (i : Int).toNat 0; rw [Int.toNat_natCast], fun h => absurd rfl h, fun _ => by show _ = C.getD (i : Int).toNat 0; rw [Int.toNat_natCast], by show C = C.set (i : Int).toNat _; rw [Int.toNat_natCast]; exact (set_back hi).symm⟩
theorem noted_none : Noted who C C [] := .inl ⟨rfl, rfl⟩
end

theorem stp_noted {nb : Nat} {n : Int} {k : Tk} {C : List Int} {now : Int} (h : k.Ok nb n C) : Noted k.who C (stp nb k C now).2.1 (stp nb k C now).2.2.toList := by
  have hl := h.len; have w0 := h.w0; have w1 := h.w1; have s0 := h.s0
  have h0 : nb < C.length := by omega
  have h1 : k.steps < k.t → nb + k.steps.toNat < C.length := fun _ => by omega
  have h2 : nb + k.who.toNat < C.length := by omega
  unfold stp
  split
  · split
    · exact noted_add h0
    · split
      · split
        · rename_i hs
          exact noted_load (h1 hs)
        · split
          · exact noted_store h2
          · exact noted_none
      · split
        · split
          · exact noted_load h0
          · split
            · exact noted_load h0
            · split
              · split
                · exact noted_swap h0 rfl
                · exact noted_not h0
              · exact noted_load h0
        · split
          · exact noted_none
          · exact noted_none
  · exact noted_none
theorem cl_noted {k : Cl} {n m : Int} {hz : Nat} {C : List Int} (h : k.Ok n m hz C) : Noted k.who C C (k.ev hz C) := by
  have h1 := h.len; have h2 := h.hz; have h3 := h.s0; have h4 := h.s1; have h5 := h.m0; have h6 := h.m1; have h7 := h.g0; have h8 := h.g1; have h9 := h.lay.t1
  unfold Cl.ev
  split
  · refine noted_load ?_
    unfold Cl.cell
    split <;> omega
  · exact noted_none
theorem sn_noted {k : Sn} {n : Int} {C : List Int} (h : k.Ok n C) : Noted k.who C C (k.ev C) := by
  unfold Sn.ev
  split
  · refine noted_load ?_
    have h1 := h.len; have h2 := h.s0; have h3 := h.s1; have h4 := h.r0; have h5 := h.r1; have h6 := h.lay.t1; have h7 := h.N
    unfold Sn.slot
    have := Int.emod_nonneg (k.start + k.read) (show (k.N : Int) ≠ 0 by omega)
    have := Int.emod_lt_of_pos (k.start + k.read) (show 0 < (k.N : Int) by omega)
    omega
  · exact noted_none
theorem ta_noted {k : Ta} {n : Int} {j jv hz : Nat} {C : List Int} (h : k.Ok n j jv hz C) : Noted k.who C (k.cells j hz C) (k.ev j jv hz C) := by
  have h1 := h.len; have h2 := h.hj; have h3 := h.hjv; have h4 := h.hhz; have h5 := h.s0; have h6 := h.s1; have h7 := h.w0; have h8 := h.w1
  have a : j < C.length := by omega
  have b : jv < C.length := by omega
  have c : hz < C.length := by omega
  unfold Ta.cells Ta.ev
  by_cases e0 : k.ph ≠ 0
  · rw [if_pos e0, if_pos e0]
    exact noted_none
  · rw [if_neg e0, if_neg e0]
    by_cases e1 : k.next = 0
    · rw [if_pos e1, if_pos e1]
      exact noted_store c
    · rw [if_neg e1, if_neg e1]
      by_cases e2 : k.next = 1
      · rw [if_pos e2, if_pos e2]
        exact noted_load a
      · rw [if_neg e2, if_neg e2]
        by_cases e3 : k.next = 2
        · rw [if_pos e3, if_pos e3]
          exact noted_load b
        · rw [if_neg e3, if_neg e3]
          by_cases e4 : k.next = 3
          · rw [if_pos e4, if_pos e4]
            by_cases e5 : C.getD j 0 = k.word
            · rw [if_pos e5, if_pos e5]
              exact noted_swap a e5
            · rw [if_neg e5, if_neg e5]
              exact noted_not a
          · rw [if_neg e4, if_neg e4]
            exact noted_store c

/-- Whose it is. -/
def Wk.by' (T : Wk) (who : Int) : Prop := match T with
  | .pu k => k.who = who
  | .ge k => k.who = who ∧ k.sn.who = who ∧ ∀ a, k.ta = some a → a.who = who
section
variable {T : Wk} {P : Pl} {C : List Int} {who now z : Int}
theorem Wk.noted (h : T.Ok P C) (hw : T.by' who) : Noted who C (T.cells P C now) (T.ev P C now) := by
  cases T with
  | pu k =>
    have h1 : k.Ok P.N P.m P.nb P.h0 C := h
    have hw' : k.who = who := hw
    have s0 := h1.cl.s0; have s1 := h1.cl.s1; have m0 := h1.cl.m0; have m1 := h1.cl.m1; have hl := h1.cl.len; have t1 := h1.cl.lay.t1
    have a : k.cl.slot.toNat < C.length := by omega
    have b : P.N + k.cl.slot.toNat < C.length := by omega
    show Noted who C (k.cells P.N P.nb C now) (k.ev P.N P.nb P.h0 C now)
    unfold Pu.cells Pu.ev
    by_cases e0 : k.ph ≠ 0
    · rw [if_pos e0, if_pos e0]
      exact noted_none
    · rw [if_neg e0, if_neg e0]
      by_cases e1 : k.next = 0
      · rw [if_pos e1, if_pos e1]
        have := cl_noted h1.cl
        rw [h1.cw, hw'] at this
        exact this
      · rw [if_neg e1, if_neg e1]
        by_cases e2 : k.next = 1
        · rw [if_pos e2, if_pos e2]
          have := stp_noted (now := now) h1.tk
          rw [h1.tw, hw'] at this
          exact this
        · rw [if_neg e2, if_neg e2]
          by_cases e3 : k.next = 2
          · rw [if_pos e3, if_pos e3, hw']
            exact noted_store b
          · rw [if_neg e3, if_neg e3, hw']
            exact noted_store a
  | ge k =>
    obtain ⟨w1, w2, w3⟩ : k.who = who ∧ k.sn.who = who ∧ ∀ a, k.ta = some a → a.who = who := hw
    show Noted who C (k.cells P.N P.hw C) (k.ev P.N P.hw C)
    unfold Ge.cells Ge.ev
    by_cases e0 : k.ph ≠ 0
    · rw [if_pos e0, if_pos e0]
      exact noted_none
    · rw [if_neg e0, if_neg e0]
      have hp : k.ph = 0 := Classical.not_not.1 e0
      cases hta : k.ta with
      | none =>
        have := sn_noted (h.1.sn hp hta).1
        rw [w2] at this
        exact this
      | some a =>
        have := ta_noted (h.1.ta hp a hta).1
        rw [w3 a hta] at this
        exact this
theorem Sn.step_who (k : Sn) (C : List Int) : (k.step C).who = k.who := by
  unfold Sn.step
  split
  · split <;> rfl
  · rfl
theorem Wk.by_step (h : T.by' who) : (T.step P C now z).by' who := by
  cases T with
  | pu k =>
    have h' : k.who = who := h
    exact (Pu.step_same k P.m P.nb P.h0 C now).who.trans h'
  | ge k =>
    obtain ⟨w1, w2, w3⟩ : k.who = who ∧ k.sn.who = who ∧ ∀ a, k.ta = some a → a.who = who := h
    show (k.step P.N P.hw C z).who = who ∧ (k.step P.N P.hw C z).sn.who = who ∧ ∀ a, (k.step P.N P.hw C z).ta = some a → a.who = who
    unfold Ge.step
    split
    · exact ⟨w1, w2, w3⟩
    · split
      · rename_i hta
        unfold Ge.read
        split
        · exact ⟨w1, (Sn.step_who _ _).trans w2, w3⟩
        · split
          · exact ⟨w1, (Sn.step_who _ _).trans w2, w3⟩
          · exact ⟨w1, (Sn.step_who _ _).trans w2, fun a ha => by cases ha; exact w1⟩
      · rename_i a hta
        have hs := a.go_same a.slot.toNat (P.N + a.slot.toNat) C
        have ha := w3 a hta
        unfold Ge.grab
        split
        · exact ⟨w1, w2, fun b hb => by cases hb; exact hs.who.trans ha⟩
        · split
          · exact ⟨w1, w1, fun b hb => by cases hb⟩
          · exact ⟨w1, w2, fun b hb => by cases hb; exact hs.who.trans ha⟩
end
theorem wk0_by {t s so d who e x start m : Int} {N : Nat} (take : Bool) : (wk0 t s so d who take e x start m N).by' who := by
  cases take with
  | false => rfl
  | true => exact ⟨rfl, rfl, (fun a h => by cases h)⟩
end

end Go.Proofs.YtpfjommkjkbonaaGreat
