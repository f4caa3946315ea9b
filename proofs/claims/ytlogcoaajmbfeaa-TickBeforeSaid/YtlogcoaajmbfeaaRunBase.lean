/-
  What is known of memory while stamps are made by picks of threads: which block is what, and that all of them are apart. No condition.
-/
import Derived.Test.YtlogcoaajmbfeaaTickLaw
namespace Go.Proofs.Ytlogcoaajmbfeaa
open Go.RowKit
set_option linter.unusedVariables false

theorem elem_int : ElemAt Try.prog 52 3 (.int .i64 0) 1 8 := ElemAt.mk' Try.underlying52 (by kernel_rfl) rfl (by decide)
theorem elem_tk : ElemAt Try.prog 79 31 (.pointer none) 1 8 := ElemAt.mk' Try.underlying79 (by kernel_rfl) rfl (by decide)
theorem elem_st : ElemAt Try.prog 54 35 (.agg #[.int .i64 0, .int .i64 0]) 2 16 := ElemAt.mk' Try.underlying54 (by kernel_rfl) rfl (by decide)

/-- A list's element: none, or a stamp that is being made. -/
def ptrV : Option (Nat × Tk) → Value
  | none => .pointer none
  | some (b, _) => pt b

/-- Stamps as cells. -/
def flat2 : List (Int × Int) → List Value
  | [] => []
  | (x, y) :: l => i64 x :: i64 y :: flat2 l
theorem flat2_append : ∀ a b : List (Int × Int), flat2 (a ++ b) = flat2 a ++ flat2 b
  | [], _ => rfl
  | (x, y) :: a, b => by simp [flat2, flat2_append a b]
theorem flat2_at : ∀ (l : List (Int × Int)) (i : Nat) (x y : Int), l[i]? = some (x, y) → (flat2 l)[i * 2]? = some (i64 x) ∧ (flat2 l)[i * 2 + 1]? = some (i64 y)
  | [], i, x, y, h => by simp at h
  | (a, b) :: l, 0, x, y, h => by
    simp only [List.getElem?_cons_zero, Option.some.injEq, Prod.mk.injEq] at h
    obtain ⟨rfl, rfl⟩ := h
    exact ⟨rfl, rfl⟩
  | (a, b) :: l, i + 1, x, y, h => by
    have ih := flat2_at l i x y (by simpa using h)
    rw [show (i + 1) * 2 = i * 2 + 2 by omega, show i * 2 + 2 + 1 = (i * 2 + 1) + 2 by omega]
    exact ih

/-- All that the call holds: o says which block is what: 0, 1, 2 the cells and what was noted of them; 3 the list of stamps under way, 4 when each was begun; 5, 6, 7 what was made, when it was begun, when it was done; 8 and j the stamp that j makes. -/
structure Sx where
  o : Nat → Option Nat
  p : Nat
  c : Nat
  v : Value
  C : List Int
  L : List Ev
  lb : Nat
  gb : Nat
  Ks : List (Option (Nat × Tk))
  Bg : List Int
  va : Value
  A : List (Int × Int)
  vf : Value
  F : List Int
  vl : Value
  G : List Int

def upd (o : Nat → Option Nat) (a : Nat) (x : Option Nat) : Nat → Option Nat := fun b => if b = a then x else o b

structure Run (W wr : World) (tn : Nat) (s : Sx) : Prop where
  own : Own W wr s.p s.c s.v s.C s.L
  lt : ∀ a k, s.o a = some k → W.heap.size ≤ k ∧ k < wr.heap.size
  inj : ∀ a b k, s.o a = some k → s.o b = some k → a = b
  o0 : s.o 0 = some s.p
  o1 : s.o 1 = some s.c
  o2 : s.o 2 = s.v.ownBlock
  o3 : s.o 3 = some s.lb
  o4 : s.o 4 = some s.gb
  o5 : s.o 5 = s.va.ownBlock
  o6 : s.o 6 = s.vf.ownBlock
  o7 : s.o 7 = s.vl.ownBlock
  ok : ∀ j : Nat, s.o (8 + j) = (s.Ks[j]?.join).map (·.1)
  tks : ∀ (j b : Nat) (k : Tk), s.Ks[j]? = some (some (b, k)) → IsTk wr b k
  rt : wr.ownsRow W.heap.size 31 1 (.slice (some ⟨s.lb, 0, none⟩) tn tn) tn (s.Ks.map ptrV)
  rg : wr.ownsRow W.heap.size 3 1 (.slice (some ⟨s.gb, 0, none⟩) tn tn) tn (s.Bg.map i64)
  ra : wr.ownsRow W.heap.size 35 2 s.va s.A.length (flat2 s.A)
  rf : wr.ownsRow W.heap.size 3 1 s.vf s.F.length (s.F.map i64)
  rl : wr.ownsRow W.heap.size 3 1 s.vl s.G.length (s.G.map i64)

/-- Blocks of some of these. -/
def Tags (s : Sx) (S : Nat → Prop) (i : Nat) : Prop := ∃ a, S a ∧ s.o a = some i

section
variable {W wr wr' : World} {tn : Nat} {s : Sx}

theorem Run.out (h : Run W wr tn s) {S : Nat → Prop} {b i : Nat} (hb : ¬ S b) (hi : s.o b = some i) : ¬ Tags s S i := fun ⟨a, ha, hai⟩ => hb (h.inj a b i hai hi ▸ ha)

theorem Run.later (h : Run W wr tn s) (e : Below wr.heap.size wr wr') : Run W wr' tn s :=
  have k : Keep (fun _ => False) wr wr' := Keep.of_below e
  ⟨h.own.later e, fun a b hb => by have := h.lt a b hb; have := e.size; omega, h.inj, h.o0, h.o1, h.o2, h.o3, h.o4, h.o5, h.o6, h.o7, h.ok, fun j b q hj => (h.tks j b q hj).later e,
    k.row h.rt (fun _ _ h => h), k.row h.rg (fun _ _ h => h), k.row h.ra (fun _ _ h => h), k.row h.rf (fun _ _ h => h), k.row h.rl (fun _ _ h => h)⟩

theorem Run.key (h : Run W wr tn s) {j b : Nat} {k : Tk} (hj : s.Ks[j]? = some (some (b, k))) : s.o (8 + j) = some b := by
  rw [h.ok, hj]
  rfl

theorem upd_at (o : Nat → Option Nat) (a : Nat) (x : Option Nat) : upd o a x a = x := if_pos rfl
theorem upd_ne (o : Nat → Option Nat) {a b : Nat} (x : Option Nat) (h : b ≠ a) : upd o a x b = o b := if_neg h

/-- A turned block stays its own, or is a new one. -/
theorem Run.inj' (h : Run W wr tn s) {a : Nat} {x : Option Nat} (hx : ∀ k, x = some k → s.o a = some k ∨ wr.heap.size ≤ k) : ∀ e f k, upd s.o a x e = some k → upd s.o a x f = some k → e = f := by
  intro e f k he hf
  unfold upd at he hf
  split at he
  · split at hf
    · omega
    · rcases hx k he with h1 | h1
      · rename_i h2 h3
        exact absurd (h.inj _ _ k hf h1) h3
      · have := (h.lt _ _ hf).2
        omega
  · split at hf
    · rcases hx k hf with h1 | h1
      · rename_i h2 h3
        exact absurd (h.inj _ _ k he h1) h2
      · have := (h.lt _ _ he).2
        omega
    · exact h.inj _ _ k he hf
theorem Run.lt' (h : Run W wr tn s) {a : Nat} {x : Option Nat} (hs : wr.heap.size ≤ wr'.heap.size) (hx : ∀ k, x = some k → W.heap.size ≤ k ∧ k < wr'.heap.size) : ∀ e k, upd s.o a x e = some k → W.heap.size ≤ k ∧ k < wr'.heap.size := by
  intro e k he
  unfold upd at he
  split at he
  · exact hx k he
  · have := h.lt e k he
    omega

/-- Thread j's step. -/
theorem Run.step (h : Run W wr tn s) {j b : Nat} {k k' : Tk} {v' : Value} {C' : List Int} {L' : List Ev} (hj : s.Ks[j]? = some (some (b, k))) (st : Stepped W.heap.size wr wr' b s.p s.c s.v v' k' C' L') :
    Run W wr' tn { s with o := upd s.o 2 v'.ownBlock, v := v', C := C', L := L', Ks := s.Ks.set j (some (b, k')) } := by
  have hb := h.key hj
  have kp : Keep (Tags s (fun a => a = 8 + j ∨ a = 0 ∨ a = 1 ∨ a = 2)) wr wr' := st.keep.mono fun i hi => by
    rcases hi with rfl | rfl | rfl | hi
    · exact ⟨8 + j, .inl rfl, hb⟩
    · exact ⟨0, .inr (.inl rfl), h.o0⟩
    · exact ⟨1, .inr (.inr (.inl rfl)), h.o1⟩
    · exact ⟨2, .inr (.inr (.inr rfl)), h.o2.trans hi⟩
  have hjl : j < s.Ks.length := (List.getElem?_eq_some_iff.1 hj).1
  have hown := h.own.stepT st (h.lt _ _ hb).1
  have row := fun {e : TypeId} {sz : Nat} {x : Value} {n : Nat} {xs : List Value} (r : wr.ownsRow W.heap.size e sz x n xs) (a : Nat) (ha : s.o a = x.ownBlock) (hn : ¬ (a = 8 + j ∨ a = 0 ∨ a = 1 ∨ a = 2)) => kp.row r (fun i hi => h.out hn (ha.trans hi))
  have hptr : (s.Ks.set j (some (b, k'))).map ptrV = s.Ks.map ptrV := by
    apply List.ext_getElem?
    intro i
    rw [List.getElem?_map, List.getElem?_map, List.getElem?_set]
    by_cases hij : j = i
    · subst hij
      rw [if_pos rfl, if_pos hjl, hj]
      rfl
    · rw [if_neg hij]
  refine ⟨hown, h.lt' st.keep.size (fun i hi => hown.mem.foot i (.inr (.inr hi))), h.inj' (fun i hi => (st.moved i hi).imp (fun e => h.o2.trans e) id), ?_, ?_, (by exact upd_at s.o 2 v'.ownBlock), ?_, ?_, ?_, ?_, ?_, fun i => ?_, fun i b2 k2 hi => ?_, ?_, row h.rg 4 h.o4 (by omega), row h.ra 5 h.o5 (by omega), row h.rf 6 h.o6 (by omega), row h.rl 7 h.o7 (by omega)⟩
  · exact (upd_ne s.o (a := 2) v'.ownBlock (by decide)).trans h.o0
  · exact (upd_ne s.o (a := 2) v'.ownBlock (by decide)).trans h.o1
  · exact (upd_ne s.o (a := 2) v'.ownBlock (by decide)).trans h.o3
  · exact (upd_ne s.o (a := 2) v'.ownBlock (by decide)).trans h.o4
  · exact (upd_ne s.o (a := 2) v'.ownBlock (by decide)).trans h.o5
  · exact (upd_ne s.o (a := 2) v'.ownBlock (by decide)).trans h.o6
  · exact (upd_ne s.o (a := 2) v'.ownBlock (by decide)).trans h.o7
  · show upd s.o 2 v'.ownBlock (8 + i) = ((s.Ks.set j (some (b, k')))[i]?.join).map (·.1)
    rw [upd_ne _ _ (by omega), h.ok, List.getElem?_set]
    by_cases hij : j = i
    · subst hij
      rw [if_pos rfl, if_pos hjl, hj]
      rfl
    · rw [if_neg hij]
  · have hi' : (s.Ks.set j (some (b, k')))[i]? = some (some (b2, k2)) := hi
    rw [List.getElem?_set] at hi'
    by_cases hij : j = i
    · subst hij
      rw [if_pos rfl, if_pos hjl] at hi'
      cases hi'
      exact st.tk
    · rw [if_neg hij] at hi'
      exact (h.tks i b2 k2 hi').keep kp (h.out (by omega) (h.key hi'))
  · show wr'.ownsRow _ _ _ _ _ ((s.Ks.set j (some (b, k'))).map ptrV)
    rw [hptr]
    exact row h.rt 3 h.o3 (by omega)

/-- A cell of a block of tag a is turned: what is kept. -/
theorem Run.keepSet (h : Run W wr tn s) {a g : Nat} (ha : s.o a = some g) (i : Nat) (u : Value) : Keep (Tags s (· = a)) wr (wr.setCell ⟨g, i, none⟩ u) :=
  (Keep.refl _ _).setCell _ ⟨a, rfl, ha⟩ u

theorem Run.ownSet (h : Run W wr tn s) {a g : Nat} (ha : s.o a = some g) (h3 : 3 ≤ a) (i : Nat) (u : Value) : Own W (wr.setCell ⟨g, i, none⟩ u) s.p s.c s.v s.C s.L :=
  have k := h.keepSet ha i u
  ⟨h.own.mem.keep k (fun j hj => by
    rcases hj with rfl | rfl | hj
    · exact h.out (by omega) h.o0
    · exact h.out (by omega) h.o1
    · exact h.out (by omega) (h.o2.trans hj)), Nat.le_trans h.own.size k.size, below_keep h.own.below k h.own.size (fun j ⟨e, he, hj⟩ => (h.lt e j hj).1)⟩

/-- When a thread's stamp was begun is set. -/
theorem Run.setB (h : Run W wr tn s) (j : Nat) (x : Int) (hj : j < tn) : Run W (wr.setCell ⟨s.gb, j, none⟩ (i64 x)) tn { s with Bg := s.Bg.set j x } := by
  have k := h.keepSet h.o4 j (i64 x)
  have row := fun {e : TypeId} {sz : Nat} {y : Value} {n : Nat} {xs : List Value} (r : wr.ownsRow W.heap.size e sz y n xs) (a : Nat) (ha : s.o a = y.ownBlock) (hn : ¬ (a = 4)) => k.row r (fun i hi => h.out hn (ha.trans hi))
  have h2 := h.rg.stored j (i64 x)
  refine ⟨h.ownSet h.o4 (by decide) j _, fun a b hb => by have := h.lt a b hb; have := k.size; omega, h.inj, h.o0, h.o1, h.o2, h.o3, h.o4, h.o5, h.o6, h.o7, h.ok, fun i b q hi => (h.tks i b q hi).keep k (h.out (by omega) (h.key hi)), row h.rt 3 h.o3 (by decide), ?_, row h.ra 5 h.o5 (by decide), row h.rf 6 h.o6 (by decide), row h.rl 7 h.o7 (by decide)⟩
  show World.ownsRow _ _ _ _ _ _ ((s.Bg.set j x).map i64)
  rw [List.map_set]
  exact h2.1

/-- A thread's stamp is a new one, or none. -/
theorem Run.setT (h : Run W wr tn s) (j : Nat) (e : Option (Nat × Tk)) (hj : j < s.Ks.length) (he : ∀ b k, e = some (b, k) → IsTk wr b k ∧ W.heap.size ≤ b ∧ ∀ a, s.o a ≠ some b) : Run W (wr.setCell ⟨s.lb, j, none⟩ (ptrV e)) tn { s with o := upd s.o (8 + j) (e.map (·.1)), Ks := s.Ks.set j e } := by
  have k := h.keepSet h.o3 j (ptrV e)
  have row := fun {e : TypeId} {sz : Nat} {y : Value} {n : Nat} {xs : List Value} (r : wr.ownsRow W.heap.size e sz y n xs) (a : Nat) (ha : s.o a = y.ownBlock) (hn : ¬ (a = 3)) => k.row r (fun i hi => h.out hn (ha.trans hi))
  have h2 := h.rt.stored j (ptrV e)
  refine ⟨h.ownSet h.o3 (by decide) j _, ?_, ?_, ?_, ?_, ?_, ?_, ?_, ?_, ?_, ?_, fun i => ?_, fun i b2 k2 hi => ?_, ?_, row h.rg 4 h.o4 (by decide), row h.ra 5 h.o5 (by decide), row h.rf 6 h.o6 (by decide), row h.rl 7 h.o7 (by decide)⟩
  · refine h.lt' k.size (fun i hi => ?_)
    obtain ⟨⟨b, q⟩, rfl, rfl⟩ := Option.map_eq_some_iff.1 hi
    have := he b q rfl
    exact ⟨this.2.1, Nat.lt_of_lt_of_le this.1.lt k.size⟩
  · intro x y i hx0 hy0
    have hx : upd s.o (8 + j) (e.map (·.1)) x = some i := hx0
    have hy : upd s.o (8 + j) (e.map (·.1)) y = some i := hy0
    unfold upd at hx hy
    split at hx
    · split at hy
      · omega
      · obtain ⟨⟨b, q⟩, rfl, rfl⟩ := Option.map_eq_some_iff.1 hx
        exact absurd hy ((he b q rfl).2.2 _)
    · split at hy
      · obtain ⟨⟨b, q⟩, rfl, rfl⟩ := Option.map_eq_some_iff.1 hy
        exact absurd hx ((he b q rfl).2.2 _)
      · exact h.inj _ _ i hx hy
  · exact (upd_ne _ _ (by omega)).trans h.o0
  · exact (upd_ne _ _ (by omega)).trans h.o1
  · exact (upd_ne _ _ (by omega)).trans h.o2
  · exact (upd_ne _ _ (by omega)).trans h.o3
  · exact (upd_ne _ _ (by omega)).trans h.o4
  · exact (upd_ne _ _ (by omega)).trans h.o5
  · exact (upd_ne _ _ (by omega)).trans h.o6
  · exact (upd_ne _ _ (by omega)).trans h.o7
  · show upd s.o (8 + j) (e.map (·.1)) (8 + i) = ((s.Ks.set j e)[i]?.join).map (·.1)
    rw [List.getElem?_set]
    by_cases hij : j = i
    · subst hij
      rw [upd_at, if_pos rfl, if_pos hj]
      rfl
    · rw [upd_ne _ _ (by omega), h.ok, if_neg hij]
  · have hi' : (s.Ks.set j e)[i]? = some (some (b2, k2)) := hi
    rw [List.getElem?_set] at hi'
    by_cases hij : j = i
    · subst hij
      rw [if_pos rfl, if_pos hj] at hi'
      cases hi'
      have h3 := he b2 k2 rfl
      exact h3.1.keep k (fun ⟨a, ha, hab⟩ => h3.2.2 a hab)
    · rw [if_neg hij] at hi'
      exact (h.tks i b2 k2 hi').keep k (h.out (by omega) (h.key hi'))
  · show World.ownsRow _ _ _ _ _ _ ((s.Ks.set j e).map ptrV)
    rw [List.map_set]
    exact h2.1

theorem Run.appA (h : Run W wr tn s) {x y : Int} {v' : Value} (g : Grew wr wr' W.heap.size 35 2 s.va v' (s.A.length + 1) (flat2 s.A ++ [i64 x, i64 y])) : Run W wr' tn { s with o := upd s.o 5 v'.ownBlock, va := v', A := s.A ++ [(x, y)] } := by
  have k : Keep (Tags s (· = 5)) wr wr' := Keep.of_grown g.grown (fun i hi => ⟨5, rfl, h.o5.trans hi⟩)
  have row := fun {e : TypeId} {sz : Nat} {y : Value} {n : Nat} {xs : List Value} (r : wr.ownsRow W.heap.size e sz y n xs) (a : Nat) (ha : s.o a = y.ownBlock) (hn : ¬ (a = 5)) => k.row r (fun i hi => h.out hn (ha.trans hi))
  refine ⟨⟨h.own.mem.keep k (fun j hj => by
      rcases hj with rfl | rfl | hj
      · exact h.out (by decide) h.o0
      · exact h.out (by decide) h.o1
      · exact h.out (by decide) (h.o2.trans hj)), Nat.le_trans h.own.size k.size, below_keep h.own.below k h.own.size (fun j ⟨e, he, hj⟩ => (h.lt e j hj).1)⟩,
    h.lt' k.size (fun i hi => g.own.lt i hi), h.inj' (fun i hi => (g.moved i hi).imp (fun e => h.o5.trans e) id), ?_, ?_, ?_, ?_, ?_, ?_, ?_, ?_, fun i => (upd_ne s.o (a := 5) v'.ownBlock (by omega)).trans (h.ok i), fun i b q hi => (h.tks i b q hi).keep k (h.out (by omega) (h.key hi)), row h.rt 3 h.o3 (by decide), row h.rg 4 h.o4 (by decide), ?_, row h.rf 6 h.o6 (by decide), row h.rl 7 h.o7 (by decide)⟩
  · exact (upd_ne s.o (a := 5) v'.ownBlock (by decide)).trans h.o0
  · exact (upd_ne s.o (a := 5) v'.ownBlock (by decide)).trans h.o1
  · exact (upd_ne s.o (a := 5) v'.ownBlock (by decide)).trans h.o2
  · exact (upd_ne s.o (a := 5) v'.ownBlock (by decide)).trans h.o3
  · exact (upd_ne s.o (a := 5) v'.ownBlock (by decide)).trans h.o4
  · exact upd_at s.o 5 v'.ownBlock
  · exact (upd_ne s.o (a := 5) v'.ownBlock (by decide)).trans h.o6
  · exact (upd_ne s.o (a := 5) v'.ownBlock (by decide)).trans h.o7
  · show World.ownsRow _ _ _ _ _ _ (flat2 (s.A ++ [(x, y)]))
    rw [List.length_append, flat2_append]
    exact g.own

theorem Run.appF (h : Run W wr tn s) {x : Int} {v' : Value} (g : Grew wr wr' W.heap.size 3 1 s.vf v' (s.F.length + 1) (s.F.map i64 ++ [i64 x])) : Run W wr' tn { s with o := upd s.o 6 v'.ownBlock, vf := v', F := s.F ++ [x] } := by
  have k : Keep (Tags s (· = 6)) wr wr' := Keep.of_grown g.grown (fun i hi => ⟨6, rfl, h.o6.trans hi⟩)
  have row := fun {e : TypeId} {sz : Nat} {y : Value} {n : Nat} {xs : List Value} (r : wr.ownsRow W.heap.size e sz y n xs) (a : Nat) (ha : s.o a = y.ownBlock) (hn : ¬ (a = 6)) => k.row r (fun i hi => h.out hn (ha.trans hi))
  refine ⟨⟨h.own.mem.keep k (fun j hj => by
      rcases hj with rfl | rfl | hj
      · exact h.out (by decide) h.o0
      · exact h.out (by decide) h.o1
      · exact h.out (by decide) (h.o2.trans hj)), Nat.le_trans h.own.size k.size, below_keep h.own.below k h.own.size (fun j ⟨e, he, hj⟩ => (h.lt e j hj).1)⟩,
    h.lt' k.size (fun i hi => g.own.lt i hi), h.inj' (fun i hi => (g.moved i hi).imp (fun e => h.o6.trans e) id), ?_, ?_, ?_, ?_, ?_, ?_, ?_, ?_, fun i => (upd_ne s.o (a := 6) v'.ownBlock (by omega)).trans (h.ok i), fun i b q hi => (h.tks i b q hi).keep k (h.out (by omega) (h.key hi)), row h.rt 3 h.o3 (by decide), row h.rg 4 h.o4 (by decide), row h.ra 5 h.o5 (by decide), ?_, row h.rl 7 h.o7 (by decide)⟩
  · exact (upd_ne s.o (a := 6) v'.ownBlock (by decide)).trans h.o0
  · exact (upd_ne s.o (a := 6) v'.ownBlock (by decide)).trans h.o1
  · exact (upd_ne s.o (a := 6) v'.ownBlock (by decide)).trans h.o2
  · exact (upd_ne s.o (a := 6) v'.ownBlock (by decide)).trans h.o3
  · exact (upd_ne s.o (a := 6) v'.ownBlock (by decide)).trans h.o4
  · exact (upd_ne s.o (a := 6) v'.ownBlock (by decide)).trans h.o5
  · exact upd_at s.o 6 v'.ownBlock
  · exact (upd_ne s.o (a := 6) v'.ownBlock (by decide)).trans h.o7
  · show World.ownsRow _ _ _ _ _ _ ((s.F ++ [x]).map i64)
    rw [List.length_append, List.map_append]
    exact g.own

theorem Run.appG (h : Run W wr tn s) {x : Int} {v' : Value} (g : Grew wr wr' W.heap.size 3 1 s.vl v' (s.G.length + 1) (s.G.map i64 ++ [i64 x])) : Run W wr' tn { s with o := upd s.o 7 v'.ownBlock, vl := v', G := s.G ++ [x] } := by
  have k : Keep (Tags s (· = 7)) wr wr' := Keep.of_grown g.grown (fun i hi => ⟨7, rfl, h.o7.trans hi⟩)
  have row := fun {e : TypeId} {sz : Nat} {y : Value} {n : Nat} {xs : List Value} (r : wr.ownsRow W.heap.size e sz y n xs) (a : Nat) (ha : s.o a = y.ownBlock) (hn : ¬ (a = 7)) => k.row r (fun i hi => h.out hn (ha.trans hi))
  refine ⟨⟨h.own.mem.keep k (fun j hj => by
      rcases hj with rfl | rfl | hj
      · exact h.out (by decide) h.o0
      · exact h.out (by decide) h.o1
      · exact h.out (by decide) (h.o2.trans hj)), Nat.le_trans h.own.size k.size, below_keep h.own.below k h.own.size (fun j ⟨e, he, hj⟩ => (h.lt e j hj).1)⟩,
    h.lt' k.size (fun i hi => g.own.lt i hi), h.inj' (fun i hi => (g.moved i hi).imp (fun e => h.o7.trans e) id), ?_, ?_, ?_, ?_, ?_, ?_, ?_, ?_, fun i => (upd_ne s.o (a := 7) v'.ownBlock (by omega)).trans (h.ok i), fun i b q hi => (h.tks i b q hi).keep k (h.out (by omega) (h.key hi)), row h.rt 3 h.o3 (by decide), row h.rg 4 h.o4 (by decide), row h.ra 5 h.o5 (by decide), row h.rf 6 h.o6 (by decide), ?_⟩
  · exact (upd_ne s.o (a := 7) v'.ownBlock (by decide)).trans h.o0
  · exact (upd_ne s.o (a := 7) v'.ownBlock (by decide)).trans h.o1
  · exact (upd_ne s.o (a := 7) v'.ownBlock (by decide)).trans h.o2
  · exact (upd_ne s.o (a := 7) v'.ownBlock (by decide)).trans h.o3
  · exact (upd_ne s.o (a := 7) v'.ownBlock (by decide)).trans h.o4
  · exact (upd_ne s.o (a := 7) v'.ownBlock (by decide)).trans h.o5
  · exact (upd_ne s.o (a := 7) v'.ownBlock (by decide)).trans h.o6
  · exact upd_at s.o 7 v'.ownBlock
  · show World.ownsRow _ _ _ _ _ _ ((s.G ++ [x]).map i64)
    rw [List.length_append, List.map_append]
    exact g.own
end

end Go.Proofs.Ytlogcoaajmbfeaa
