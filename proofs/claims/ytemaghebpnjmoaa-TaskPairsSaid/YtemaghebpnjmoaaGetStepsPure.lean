/-
  A get beside a snap and a take of the law's own, over two memories that are alike: what a step of the parts comes to. No condition.
-/
import Derived.Test.YtemaghebpnjmoaaAGet
namespace Go.Proofs.Ytemaghebpnjmoaa
open Go.RowKit
set_option linter.unusedVariables false

/-- A list of events lies at A. -/
def GAtE (w : World) (A : Option Addr) (L : List Ev) : Prop :=
  L ≠ [] → ∃ b o, A = some ⟨b, o, none⟩ ∧ b < w.heap.size ∧ ∀ i e, L[i]? = some e → w.cell? ⟨b, o + i * 6, none⟩ = some (i64 e.who) ∧ w.cell? ⟨b, o + i * 6 + 1, none⟩ = some (i64 e.op) ∧ w.cell? ⟨b, o + i * 6 + 2, none⟩ = some (i64 e.cell) ∧
    w.cell? ⟨b, o + i * 6 + 3, none⟩ = some (u64 e.old) ∧ w.cell? ⟨b, o + i * 6 + 4, none⟩ = some (u64 e.new) ∧ w.cell? ⟨b, o + i * 6 + 5, none⟩ = some (.bool e.ok)

theorem gflatE_at : ∀ (L : List Ev) (i : Nat) (e : Ev), L[i]? = some e → ∀ j u, e.cells[j]? = some u → (flatE L)[i * 6 + j]? = some u
  | [], i, e, h, _, _, _ => by simp at h
  | f :: L, 0, e, h, j, u, hj => by
    simp only [List.getElem?_cons_zero, Option.some.injEq] at h
    subst h
    have hl : j < f.cells.length := (List.getElem?_eq_some_iff.1 hj).1
    rw [flatE, Nat.zero_mul, Nat.zero_add, List.getElem?_append_left hl]
    exact hj
  | f :: L, i + 1, e, h, j, u, hj => by
    have ih := gflatE_at L i e (by simpa using h) j u hj
    have hl : f.cells.length = 6 := rfl
    rw [flatE, List.getElem?_append_right (by omega), hl, show (i + 1) * 6 + j - 6 = i * 6 + j by omega]
    exact ih

/-- An own row of events. -/
theorem GAtE.row {w : World} {base : Nat} {A : Option Addr} {cap : Nat} {L : List Ev} (h : w.ownsRow base 60 6 (.slice A L.length cap) L.length (flatE L)) : GAtE w A L := fun hne => by
  rcases h.2 with ⟨_, h0⟩ | ⟨g, cap', cur, hv, hg, hh, _⟩
  · exact absurd (List.eq_nil_of_length_eq_zero h0) hne
  · cases hv
    refine ⟨g, 0, rfl, (h.lt g rfl).2, fun i e he => ?_⟩
    have hi := (List.getElem?_eq_some_iff.1 he).1
    have k : ∀ j u, e.cells[j]? = some u → w.cell? ⟨g, 0 + i * 6 + j, none⟩ = some u := fun j u hj => by
      have hjl : j < e.cells.length := (List.getElem?_eq_some_iff.1 hj).1
      have hjl' : e.cells.length = 6 := rfl
      rw [show 0 + i * 6 + j = i * 6 + j by omega, h.cellAt (i * 6 + j) (by omega)]
      exact gflatE_at L i e he j u hj
    exact ⟨k 0 _ rfl, k 1 _ rfl, k 2 _ rfl, k 3 _ rfl, k 4 _ rfl, k 5 _ rfl⟩

section
variable {k : Ge} {N hz : Nat} {C : List Int} {z z' : Int}
/-- What comes of a step doesn't hang on how it was asked. -/
theorem Ge.step_one (hk : k.Ok N hz C) (hf : ∀ j, 0 ≤ C.getD j 0 ∧ C.getD j 0 ≤ 18446744073709551615) (h : k.ask C z) (h' : k.ask C z') : k.step N hz C z = k.step N hz C z' := by
  by_cases hp : k.ph = 0
  · cases hta : k.ta with
    | some a =>
      unfold Ge.step
      rw [if_neg (by omega), if_neg (by omega), hta]
    | none =>
      by_cases hd : (k.sn.step C).ph = 1
      · have h1 := h hp hta hd
        have h2 := h' hp hta hd
        have hx := step_X (k := k.sn) (C := C) hk.sX hf
        obtain ⟨s1, s2⟩ := hk.sn hp hta
        have hn2 := hk.lay.n2
        have hp1 : (k.sn.X.set k.sn.slot (C.getD k.sn.slot 0)).length = k.sn.N := by rw [List.length_set]; exact s1.X
        have hl : (k.sn.step C).X.length = k.sn.N := by
          unfold Sn.step
          rw [if_pos s2]
          split
          · exact hp1
          · exact hp1
        have hN := s1.N
        rw [end_unique hx.2 (by omega) h1 h2]
      · have e : ∀ y, k.step N hz C y = { k with sn := k.sn.step C } := fun y => by
          have e1 : k.step N hz C y = k.read (k.sn.step C) y := by unfold Ge.step; rw [if_neg (by omega), hta]
          rw [e1]
          unfold Ge.read
          rw [if_pos hd]
        rw [e, e]
  · rw [show k.step N hz C z = k from if_pos hp, show k.step N hz C z' = k from if_pos hp]

/-- The parts of a step. -/
theorem st_rest (hp : k.ph ≠ 0) : k.ask C 0 ∧ k.step N hz C 0 = k ∧ k.cells N hz C = C ∧ k.ev N hz C = [] := ⟨fun h => absurd h hp, if_pos hp, if_pos hp, if_pos hp⟩
theorem st_more (hp : k.ph = 0) (ht : k.ta = none) (hd : (k.sn.step C).ph ≠ 1) : k.ask C 0 ∧ k.step N hz C 0 = { k with sn := k.sn.step C } ∧ k.cells N hz C = C ∧ k.ev N hz C = k.sn.ev C := by
  refine ⟨fun _ _ h => absurd h hd, ?_, ?_, ?_⟩
  · have e1 : k.step N hz C 0 = k.read (k.sn.step C) 0 := by unfold Ge.step; rw [if_neg (by omega), ht]
    rw [e1]
    unfold Ge.read
    rw [if_pos hd]
  · unfold Ge.cells
    rw [if_neg (by omega), ht]
  · unfold Ge.ev
    rw [if_neg (by omega), ht]
theorem st_done (hp : k.ph = 0) (ht : k.ta = none) (hd : (k.sn.step C).ph = 1) (hz' : IsEnd (k.sn.step C).X k.e z) : k.ask C z ∧ k.step N hz C z = (if z < 0 then { k with sn := k.sn.step C, ph := 2 } else { k with sn := k.sn.step C, ta := some (ta0 k.t k.s k.so k.d k.who z ((k.sn.step C).X.getD z.toNat 0)) }) ∧ k.cells N hz C = C ∧ k.ev N hz C = k.sn.ev C := by
  refine ⟨fun _ _ _ => hz', ?_, ?_, ?_⟩
  · have e1 : k.step N hz C z = k.read (k.sn.step C) z := by unfold Ge.step; rw [if_neg (by omega), ht]
    rw [e1]
    unfold Ge.read
    rw [if_neg (fun h => h hd)]
  · unfold Ge.cells
    rw [if_neg (by omega), ht]
  · unfold Ge.ev
    rw [if_neg (by omega), ht]
theorem st_take {a : Ta} (hp : k.ph = 0) (ht : k.ta = some a) : k.ask C 0 ∧ k.step N hz C 0 = k.grab N (a.go a.slot.toNat (N + a.slot.toNat) C) ∧ k.cells N hz C = a.cells a.slot.toNat hz C ∧ k.ev N hz C = a.ev a.slot.toNat (N + a.slot.toNat) hz C := by
  refine ⟨(fun _ h => by rw [ht] at h; cases h), ?_, ?_, ?_⟩
  · unfold Ge.step
    rw [if_neg (by omega), ht]
  · unfold Ge.cells
    rw [if_neg (by omega), ht]
  · unfold Ge.ev
    rw [if_neg (by omega), ht]
end

/-- Two memories; a get over the first; what stands for its parts over the second. -/
def GS (W w : World) (p c p' c' : Nat) (C : List Int) (L : List Ev) (C' : List Int) (L' : List Ev) (b : Nat) (k : Ge) (R : List Thing) : Prop :=
  ∃ v', GeH W w p c C L b k (tMem W.heap.size p' c' v' C' L' :: R)

section
variable {W w w' : World} {p c p' c' b : Nat} {C C' : List Int} {L L' : List Ev} {k : Ge} {R : List Thing}
theorem GS.later (h : GS W w p c p' c' C L C' L' b k R) (e : Below w.heap.size w w') : GS W w' p c p' c' C L C' L' b k R := by
  obtain ⟨v', h⟩ := h
  exact ⟨v', h.later e⟩
theorem GS.drew (h : GS W w p c p' c' C L C' L' b k R) : GS W w.drew p c p' c' C L C' L' b k R := h.later (Below.refl _ _).drew
theorem GS.below (h : GS W w p c p' c' C L C' L' b k R) : Below W.heap.size W w := by
  obtain ⟨v', h⟩ := h
  exact h.below
theorem GS.size (h : GS W w p c p' c' C L C' L' b k R) : W.heap.size ≤ w.heap.size := by
  obtain ⟨v', h⟩ := h
  exact h.size
theorem GS.fit (h : GS W w p c p' c' C L C' L' b k R) : ∀ j, 0 ≤ C.getD j 0 ∧ C.getD j 0 ≤ 18446744073709551615 := by
  obtain ⟨v', h⟩ := h
  exact h.fit
theorem GS.mem1 (h : GS W w p c p' c' C L C' L' b k R) : ∃ v, IsMem W.heap.size w p c v C L := by
  obtain ⟨v', h⟩ := h
  exact h.mem
theorem GS.mem2 (h : GS W w p c p' c' C L C' L' b k R) : ∃ v, IsMem W.heap.size w p' c' v C' L' := by
  obtain ⟨v', v, bs, gs, bt, h⟩ := h
  exact ⟨v', h.has 2 _ rfl⟩
theorem GS.get (h : GS W w p c p' c' C L C' L' b k R) : ∃ R', GeH W w p c C L b k R' := by
  obtain ⟨v', h⟩ := h
  exact ⟨_, h⟩
/-- A step of the get. -/
theorem GS.call {N hz : Nat} (h : GS W w p c p' c' C L C' L' b k R) (hk : k.Ok N hz C) (hL : L.length < 1000000000) :
    Calls Try.prog 18 #[pt b, pt p] w fun r w' => ∃ z, k.ask C z ∧ r = .returned (i64 (k.step N hz C z).ph) ∧ GS W w' p c p' c' (k.cells N hz C) (L ++ k.ev N hz C) C' L' b (k.step N hz C z) R := by
  obtain ⟨v', h⟩ := h
  refine (h.call hk hL).mono ?_
  rintro r w' ⟨z, h1, h2, h3⟩
  exact ⟨z, h1, h2, v', h3⟩
/-- A step of the snap. -/
theorem GS.snap {ba ga : Nat} {s : Sn} {n : Int} (h : GS W w p c p' c' C L C' L' b k [tSn W.heap.size ba ga s]) (hk : s.Ok n C') (hL : L'.length < 1000000000) :
    Calls Try.prog 54 #[pt ba, pt p'] w fun r w' => r = .returned (i64 (s.step C').ph) ∧ GS W w' p c p' c' C L C' (L' ++ s.ev C') b k [tSn W.heap.size ba ga (s.step C')] := by
  obtain ⟨v', v, bs, gs, bt, h⟩ := h
  refine (snstep_any W.heap.size w ba ga p' c' v' C' L' s n hk (h.has 3 _ rfl) (h.has 2 _ rfl) (Hold.free h 2 3 (by decide) rfl rfl) h.size hL).mono ?_
  rintro r w' ⟨hr, v'', hd, hs⟩
  exact ⟨hr, v'', v, bs, gs, bt, Hold.does h 2 3 (by decide) rfl rfl hd (tSn_ok _ _ _ _) hs (fun q hq => hq)⟩
theorem GS.words {ba ga : Nat} {s : Sn} (h : GS W w p c p' c' C L C' L' b k [tSn W.heap.size ba ga s]) (hp : s.ph = 1) (hN : s.N ≤ 4096) :
    Calls Try.prog 55 #[pt ba] w (WordsPost s.X s.N w) := by
  obtain ⟨v', v, bs, gs, bt, h⟩ := h
  exact snwords_any W.heap.size w ba ga s hp hN (h.has 3 _ rfl)
/-- A step of the take. -/
theorem GS.take {x : Nat} {a : Ta} {n : Int} {j jv hz : Nat} (h : GS W w p c p' c' C L C' L' b k [tObj W.heap.size x a.list]) (hk : a.Ok n j jv hz C') (hL : L'.length < 1000000000) :
    Calls Try.prog 58 #[pt x, pt p'] w fun r w' => r = .returned (i64 (a.go j jv C').ph) ∧ GS W w' p c p' c' C L (a.cells j hz C') (L' ++ a.ev j jv hz C') b k [tObj W.heap.size x (a.go j jv C').list] := by
  obtain ⟨v', v, bs, gs, bt, h⟩ := h
  refine (tastep_any W.heap.size w x p' c' v' C' L' a n j jv hz hk (h.has 3 _ rfl).1 (h.has 2 _ rfl) (Hold.free h 2 3 (by decide) rfl rfl x rfl) h.size hL).mono ?_
  rintro r w' ⟨hr, v'', hd, hs⟩
  exact ⟨hr, v'', v, bs, gs, bt, Hold.does h 2 3 (by decide) rfl rfl hd (tObj_ok _ _ _) ⟨hs, (h.has 3 _ rfl).2⟩ (fun q hq => hq)⟩
theorem GS.value {x : Nat} {a : Ta} (h : GS W w p c p' c' C L C' L' b k [tObj W.heap.size x a.list]) (y : Int) (hy : (if a.ph = 1 then a.value else 0) = y) :
    Calls Try.prog 48 #[pt x] w fun r w' => r = .returned (u64 y) ∧ Below w.heap.size w w' := by
  obtain ⟨v', v, bs, gs, bt, h⟩ := h
  exact quiet_below (tavalue_at y hy (h.has 3 _ rfl).1)
/-- Another thing stands for the parts. -/
theorem GS.fresh {T : Thing} (h : GS W w p c p' c' C L C' L' b k R) (e : Below w.heap.size w w') (ok : T.Ok W.heap.size) (hP : T.P w') (hF : ∀ q, T.F q → w.heap.size ≤ q) : GS W w' p c p' c' C L C' L' b k [T] := by
  obtain ⟨v', v, bs, gs, bt, h⟩ := h
  exact ⟨v', v, bs, gs, bt, Hold.more (Hold.less (l := [_, _, _]) h) e ok hP hF⟩
theorem GS.only (h : GS W w p c p' c' C L C' L' b k R) : GS W w p c p' c' C L C' L' b k [] := by
  obtain ⟨v', v, bs, gs, bt, h⟩ := h
  exact ⟨v', v, bs, gs, bt, Hold.less (l := [_, _, _]) h⟩
/-- A cell of the first memory is stored, of the second one. -/
theorem GS.store1 (h : GS W w p c p' c' C L C' L' b k R) (who : Int) (i : Nat) (x y : Int) (hx : C[i]? = some x) (hL : L.length < 1000000000) (y0 : 0 ≤ y) (y1 : y ≤ 18446744073709551615) :
    Calls Try.prog 31 #[pt p, i64 who, i64 i, u64 y] w fun r w' => r = .returned (.tuple #[]) ∧ GS W w' p c p' c' (C.set i y) (L ++ [⟨who, 1, i, x, y, true⟩]) C' L' b k R ∧ ∃ T : Nat → Prop, Keep T w w' ∧ ∀ q, T q → ∃ v, Foot p c v q ∧ IsMem W.heap.size w p c v C L := by
  obtain ⟨v', v, bs, gs, bt, h⟩ := h
  refine (store_in W.heap.size w p c v C L who i x y (h.has 0 _ rfl) hx h.size hL y0 y1).mono ?_
  rintro r w' ⟨h1, v2, hT⟩
  exact ⟨h1, ⟨v', v2, bs, gs, bt, h.mem 0 rfl hT⟩, _, hT.keep, fun q hq => ⟨v, hq, h.has 0 _ rfl⟩⟩
theorem GS.store2 (h : GS W w p c p' c' C L C' L' b k R) (who : Int) (i : Nat) (x y : Int) (hx : C'[i]? = some x) (hL : L'.length < 1000000000) (y0 : 0 ≤ y) (y1 : y ≤ 18446744073709551615) :
    Calls Try.prog 31 #[pt p', i64 who, i64 i, u64 y] w fun r w' => r = .returned (.tuple #[]) ∧ GS W w' p c p' c' C L (C'.set i y) (L' ++ [⟨who, 1, i, x, y, true⟩]) b k R ∧ ∃ T : Nat → Prop, Keep T w w' ∧ ∀ q, T q → ∃ v, Foot p' c' v q ∧ IsMem W.heap.size w p' c' v C' L' := by
  obtain ⟨v', v, bs, gs, bt, h⟩ := h
  refine (store_in W.heap.size w p' c' v' C' L' who i x y (h.has 2 _ rfl) hx h.size hL y0 y1).mono ?_
  rintro r w' ⟨h1, v2, hT⟩
  exact ⟨h1, ⟨v2, v, bs, gs, bt, h.mem 2 rfl hT⟩, _, hT.keep, fun q hq => ⟨v', hq, h.has 2 _ rfl⟩⟩
end
/-- What the law has for its parts. -/
structure GFit (base : Nat) (k : Ge) (va vb : Value) (R : List Thing) : Prop where
  s : k.ph = 0 → k.ta = none → vb = .pointer none ∧ ∃ ba ga, va = pt ba ∧ R = [tSn base ba ga k.sn]
  t : k.ph = 0 → ∀ a, k.ta = some a → ∃ x, vb = pt x ∧ R = [tObj base x a.list]

theorem Ge.val0 {k : Ge} (h : k.ph = 0) : k.val = 0 := by
  unfold Ge.val
  rw [if_neg (by omega)]
theorem st_sn {k : Ge} {N hz : Nat} {C : List Int} (hk : k.Ok N hz C) (hf : ∀ j, 0 ≤ C.getD j 0 ∧ C.getD j 0 ≤ 18446744073709551615) (hp : k.ph = 0) (ht : k.ta = none) : (k.sn.step C).N = N ∧ (k.sn.step C).X.length = N ∧ ∀ i, 0 ≤ (k.sn.step C).X.getD i 0 ∧ (k.sn.step C).X.getD i 0 ≤ 18446744073709551615 := by
  have hx := step_X (k := k.sn) (C := C) hk.sX hf
  obtain ⟨s1, s2⟩ := hk.sn hp ht
  have hp1 : (k.sn.X.set k.sn.slot (C.getD k.sn.slot 0)).length = k.sn.N := by rw [List.length_set]; exact s1.X
  have hl : (k.sn.step C).X.length = k.sn.N := by
    unfold Sn.step
    rw [if_pos s2]
    split
    · exact hp1
    · exact hp1
  exact ⟨hx.1.trans hk.sN, hl.trans hk.sN, hx.2⟩
/-- The ends of an order. -/
theorem end_none {ws : List Int} {e : Int} (h : IsOrder ws []) : IsEnd ws e (-1) :=
  .inl ⟨rfl, fun i hi hl => by have := (h.mem i).2 ⟨hi, hl⟩; cases this⟩
theorem getD_mem {S : List Nat} {q : Nat} (h : q < S.length) : S.getD q 0 = S[q] := by
  rw [List.getD_eq_getElem?_getD, List.getElem?_eq_getElem h]
  rfl
theorem end_left {ws : List Int} {S : List Nat} {j : Nat} (h : IsOrder ws S) (h0 : 0 < S.length) (hj : S.getD 0 0 = j) : IsEnd ws 0 (j : Int) := by
  rw [getD_mem h0] at hj
  have hm := (h.mem S[0]).1 (List.getElem_mem h0)
  rw [hj] at hm
  refine .inr ⟨j, rfl, hm.1, hm.2, fun i hi hl => ?_⟩
  rw [if_pos rfl]
  obtain ⟨q, hq, rfl⟩ := List.getElem_of_mem ((h.mem i).2 ⟨hi, hl⟩)
  rcases Nat.eq_zero_or_pos q with rfl | h1
  · rw [hj]
    exact Int.le_refl _
  · have := List.pairwise_iff_getElem.1 h.rise 0 q h0 hq h1
    rw [hj] at this
    omega
theorem end_right {ws : List Int} {S : List Nat} {j : Nat} (h : IsOrder ws S) (h0 : 0 < S.length) (hj : S.getD (S.length - 1) 0 = j) : IsEnd ws 1 (j : Int) := by
  rw [getD_mem (by omega)] at hj
  have hm := (h.mem S[S.length - 1]).1 (List.getElem_mem (by omega))
  rw [hj] at hm
  refine .inr ⟨j, rfl, hm.1, hm.2, fun i hi hl => ?_⟩
  rw [if_neg (by decide)]
  obtain ⟨q, hq, rfl⟩ := List.getElem_of_mem ((h.mem i).2 ⟨hi, hl⟩)
  rcases (by omega : q = S.length - 1 ∨ q < S.length - 1) with rfl | h1
  · rw [hj]
    exact Int.le_refl _
  · have := List.pairwise_iff_getElem.1 h.rise q (S.length - 1) hq (by omega) h1
    rw [hj] at this
    omega
theorem Ge.step_ta {k : Ge} {N hz : Nat} {C : List Int} {z : Int} (h : k.ph = 1 → k.ta ≠ none) : (k.step N hz C z).ph = 1 → (k.step N hz C z).ta ≠ none := by
  unfold Ge.step
  split
  · exact h
  · rename_i hp
    have hp0 : k.ph = 0 := Classical.not_not.1 hp
    split
    · unfold Ge.read
      split
      · intro h1
        have : k.ph = 1 := h1
        omega
      · split
        · intro h1
          have : (2 : Int) = 1 := h1
          omega
        · intro h1
          have : k.ph = 1 := h1
          omega
    · unfold Ge.grab
      split
      · intro _ h1
        cases h1
      · split
        · intro h1
          have : k.ph = 1 := h1
          omega
        · intro _ h1
          cases h1

section
variable {W w w' : World} {p c p' c' b : Nat} {C C' : List Int} {L L' : List Ev} {k : Ge} {R : List Thing}
theorem GS.more {T : Thing} (h : GS W w p c p' c' C L C' L' b k R) (e : Below w.heap.size w w') (ok : T.Ok W.heap.size) (hP : T.P w') (hF : ∀ q, T.F q → w.heap.size ≤ q) : GS W w' p c p' c' C L C' L' b k (R ++ [T]) := by
  obtain ⟨v', v, bs, gs, bt, h⟩ := h
  exact ⟨v', v, bs, gs, bt, Hold.more h e ok hP hF⟩
theorem GS.less {Q : List Thing} (h : GS W w p c p' c' C L C' L' b k (R ++ Q)) : GS W w p c p' c' C L C' L' b k R := by
  obtain ⟨v', v, bs, gs, bt, h⟩ := h
  exact ⟨v', v, bs, gs, bt, Hold.less (l := tMem W.heap.size p c v C L :: tGe W.heap.size b bs gs bt k :: tMem W.heap.size p' c' v' C' L' :: R) h⟩
theorem GS.at {A : Thing} (h : GS W w p c p' c' C L C' L' b k R) (i : Nat) (hi : R[i]? = some A) : A.P w := by
  obtain ⟨v', v, bs, gs, bt, h⟩ := h
  exact h.has (i + 3) A hi
end
/-- A turn's box and the row of the two memories. -/
def bxL (base bx sb p p' : Nat) (ta ts : Int) (x : Th) : List Thing := [tObj base bx [i64 ta, i64 ts, i64 x.state, i64 x.gen, i64 x.at', i64 x.wide, .bool x.right, u64 x.value], tObj base sb [pt p, pt p']]
theorem GS.box {W w : World} {p c p' c' b bx sb cb q q' : Nat} {C C' : List Int} {L L' : List Ev} {k : Ge} {R : List Thing} {ta ts t s : Int} {x : Th} (h : GS W w p c p' c' C L C' L' b k (R ++ bxL W.heap.size bx sb q q' ta ts x)) (hA : AtC w cb t s 0 0) :
    AtCTh cb bx 2 t s 0 0 x w ∧ w.cell? ⟨sb, 0, none⟩ = some (pt q) ∧ w.cell? ⟨sb, 1, none⟩ = some (pt q') := by
  have h1 := (h.at R.length (by rw [List.getElem?_append_right (Nat.le_refl _), Nat.sub_self]; rfl) : (tObj W.heap.size bx _).P w).1
  have h2 := (h.at (R.length + 1) (by rw [List.getElem?_append_right (Nat.le_succ _), show R.length + 1 - R.length = 1 by omega]; rfl) : (tObj W.heap.size sb _).P w).1
  exact ⟨⟨hA, h1.at' 2 _ rfl, h1.at' 3 _ rfl, h1.at' 4 _ rfl, h1.at' 5 _ rfl, h1.at' 6 _ rfl, h1.at' 7 _ rfl⟩, h2.at' 0 _ rfl, h2.at' 1 _ rfl⟩
/-- Turns as they came in. -/
def IsTn (w : World) (a0 : Option Addr) (len cap b off : Nat) (X : Nat → Int × Int × Th) : Prop :=
  ∀ i, i < len → a0 = some ⟨b, off, none⟩ ∧ len ≤ cap ∧ b < w.heap.size ∧ w.cell? ⟨b, off + i * 8, none⟩ = some (i64 (X i).1) ∧ w.cell? ⟨b, off + i * 8 + 1, none⟩ = some (i64 (X i).2.1) ∧ w.cell? ⟨b, off + i * 8 + 2, none⟩ = some (i64 (X i).2.2.state) ∧ w.cell? ⟨b, off + i * 8 + 3, none⟩ = some (i64 (X i).2.2.gen) ∧ w.cell? ⟨b, off + i * 8 + 4, none⟩ = some (i64 (X i).2.2.at') ∧ w.cell? ⟨b, off + i * 8 + 5, none⟩ = some (i64 (X i).2.2.wide) ∧ w.cell? ⟨b, off + i * 8 + 6, none⟩ = some (.bool (X i).2.2.right) ∧ w.cell? ⟨b, off + i * 8 + 7, none⟩ = some (u64 (X i).2.2.value) ∧ 0 ≤ (X i).2.2.value ∧ (X i).2.2.value ≤ 18446744073709551615
theorem rows_turn8 {w : World} {a0 : Option Addr} {len cap : Nat} (h : IsRows w [.inl .i64, .inl .i64, .inl .i64, .inl .i64, .inl .i64, .inl .i64, .inr true, .inl .u64] a0 len cap) : ∃ b off, ∃ X : Nat → Int × Int × Th, IsTn w a0 len cap b off X := by
  obtain ⟨h1, h2, h3, h4, h5⟩ := h
  rcases Nat.eq_zero_or_pos len with h0 | hl
  · exact ⟨0, 0, fun _ => ⟨0, 0, 0, 0, 0, 0, false, 0⟩, fun i hi => by omega⟩
  obtain ⟨b, off, rfl⟩ := h4 hl
  have hx : ∀ i, ∃ x : Int × Int × Th, i < len → w.cell? ⟨b, off + i * 8, none⟩ = some (i64 x.1) ∧ w.cell? ⟨b, off + i * 8 + 1, none⟩ = some (i64 x.2.1) ∧ w.cell? ⟨b, off + i * 8 + 2, none⟩ = some (i64 x.2.2.state) ∧ w.cell? ⟨b, off + i * 8 + 3, none⟩ = some (i64 x.2.2.gen) ∧ w.cell? ⟨b, off + i * 8 + 4, none⟩ = some (i64 x.2.2.at') ∧ w.cell? ⟨b, off + i * 8 + 5, none⟩ = some (i64 x.2.2.wide) ∧ w.cell? ⟨b, off + i * 8 + 6, none⟩ = some (.bool x.2.2.right) ∧ w.cell? ⟨b, off + i * 8 + 7, none⟩ = some (u64 x.2.2.value) ∧ 0 ≤ x.2.2.value ∧ x.2.2.value ≤ 18446744073709551615 := by
    intro i
    by_cases hi : i < len
    · obtain ⟨cs, hf, hc⟩ := h5 b off rfl i hi
      obtain ⟨c0, l0, rfl, r0, f0⟩ := fit_cons hf
      obtain ⟨c1, l1, rfl, r1, f1⟩ := fit_cons f0
      obtain ⟨c2, l2, rfl, r2, f2⟩ := fit_cons f1
      obtain ⟨c3, l3, rfl, r3, f3⟩ := fit_cons f2
      obtain ⟨c4, l4, rfl, r4, f4⟩ := fit_cons f3
      obtain ⟨c5, l5, rfl, r5, f5⟩ := fit_cons f4
      obtain ⟨c6, l6, rfl, r6, f6⟩ := fit_cons f5
      obtain ⟨c7, l7, rfl, r7, f7⟩ := fit_cons f6
      obtain ⟨x0, rfl, g0⟩ := r0
      obtain ⟨x1, rfl, g1⟩ := r1
      obtain ⟨x2, rfl, g2⟩ := r2
      obtain ⟨x3, rfl, g3⟩ := r3
      obtain ⟨x4, rfl, g4⟩ := r4
      obtain ⟨x5, rfl, g5⟩ := r5
      obtain ⟨x6, rfl⟩ := r6
      obtain ⟨x7, rfl, g7⟩ := r7
      exact ⟨⟨x0, x1, x2, x3, x4, x5, x6, x7⟩, fun _ => ⟨hc 0 _ rfl, hc 1 _ rfl, hc 2 _ rfl, hc 3 _ rfl, hc 4 _ rfl, hc 5 _ rfl, hc 6 _ rfl, hc 7 _ rfl, (bounds_u64 g7).1, (bounds_u64 g7).2⟩⟩
    · exact ⟨⟨0, 0, 0, 0, 0, 0, false, 0⟩, fun h => absurd h hi⟩
  obtain ⟨X, hX⟩ := Classical.axiomOfChoice hx
  exact ⟨b, off, X, fun i hi => ⟨rfl, h1, World.block_lt_of_cell? w _ (hX i hi).1, hX i hi⟩⟩
theorem IsTn.later {w w' : World} {a : Option Addr} {len cap tb off B : Nat} {X : Nat → Int × Int × Th} (h : IsTn w a len cap tb off X) (e : Below B w w') (hB : ∀ i, i < len → tb < B) : IsTn w' a len cap tb off X := fun i hi => by
  obtain ⟨h1, h2, h3, x0, x1, x2, x3, x4, x5, x6, x7, h8⟩ := h i hi
  have hk : ∀ j, w'.cell? ⟨tb, j, none⟩ = w.cell? ⟨tb, j, none⟩ := fun j => e.cell (p := ⟨tb, j, none⟩) (hB i hi)
  have h9 := (hk _).trans x0
  exact ⟨h1, h2, World.block_lt_of_cell? w' _ h9, h9, (hk _).trans x1, (hk _).trans x2, (hk _).trans x3, (hk _).trans x4, (hk _).trans x5, (hk _).trans x6, (hk _).trans x7, h8⟩

end Go.Proofs.Ytemaghebpnjmoaa
