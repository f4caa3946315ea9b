/-
  Plain lemmas on worlds that grow: what was there is there still. No condition.
  Plain lemmas, over any program: a statement whose order is open goes in whatever order as it goes in ONE listed order, where what is read is not written meanwhile. No condition but that the list is a lawful order (checked by computation).
  Plain lemmas, over any program: a statement whose order is open, where two or three operations may come up beside each other: all their orders, as a tree. No condition but that the tree is lawful (checked by computation).
  Plain lemmas, over any program: an argument whose type is made of ints, bools, strings and structs of these, however nested, is opened to its cells at one stroke; likewise a slice of such elements. No condition.
  Plain lemmas, over any program: all blocks that were there, but some, are as they were; appending to an own row as a step of a drawn region. No condition.
  Plain lemmas, over any program: several things that a call holds, each in blocks of its own; a struct in a block; rows of numbers. No condition.
  Plain lemmas: rows of numbers that a call holds: appended to, stored into, read. No condition.
  Plain lemmas on bits of numbers, over any program. No condition but that the mask is one less than a power of two.
-/
import Derived.WalkKit
import Derived.WalkSpells
import Derived.WalkLawsBesides
import Derived.Lib.Hide
import Derived.Deep.RegionHeld3
import Derived.ProofKit
import Derived.OpenShut
import Derived.ShutString
import Derived.ChangeOld
import Derived.Below
import Derived.Deep.Slices
import Derived.Maps.AppendAt
import Derived.OwnWalk
import Derived.Deep.RegionLaw
import Derived.Test.YtpfjommkjkbonaaGreatProg
namespace Go.Proofs.YtpfjommkjkbonaaGreat
section
open Go.RowKit

abbrev st (a b : Int) : Value := .agg #[.int .i64 a, .int .i64 b]
abbrev i64 (a : Int) : Value := .int .i64 a
abbrev u64 (a : Int) : Value := .int .u64 a

theorem bcell {W w1 : World} (hb : Below W.heap.size W w1) : (∀ b o, b < W.heap.size → w1.cell? ⟨b, o, none⟩ = W.cell? ⟨b, o, none⟩) ∧ (∀ b o, b < W.heap.size → w1.frozen? ⟨b, o, none⟩ = W.frozen? ⟨b, o, none⟩) :=
  ⟨fun b o h => hb.cell (p := ⟨b, o, none⟩) h, fun b o h => hb.frozen (p := ⟨b, o, none⟩) h⟩

theorem below_step {w W W' : World} (h : Below w.heap.size w W) (h' : Below W.heap.size W W') : Below w.heap.size w W' := h.trans (h'.mono h.size)
theorem below_new {w W : World} (h : Below w.heap.size w W) (o : Obj) : Below w.heap.size w (W.alloc o) := h.alloc h.size o
theorem below_drawn {w W : World} (h : Below w.heap.size w W) (n : Nat) : Below w.heap.size w (W.drewN n) := ⟨h.os, h.tape, h.output, h.size, h.block⟩
theorem below_set {w W : World} (h : Below w.heap.size w W) {p : Addr} (hp : w.heap.size ≤ p.block) (u : Value) : Below w.heap.size w (W.setCell p u) := h.setCell hp u
end

section
open Go.RowKit

/-- Is this list an order in which all operations can come up: those marked true may be taken ahead of whatever else may come up, of those marked false nothing else may come up beside them? -/
def Sched (md : Region.Mode) (ops : Array Oper) : List (Nat × Bool) → Array Bool → Bool
  | [], listed => (Region.ready md ops listed).isEmpty
  | (i, true) :: σ, listed => Region.free md ops listed i && ((Region.ready md ops listed).contains i && Sched md ops σ (listed.setIfInBounds i true))
  | (i, false) :: σ, listed => (Region.ready md ops listed == [i]) && Sched md ops σ (listed.setIfInBounds i true)

section
variable {P : Program} {ops : Array Oper} {Q : Exit → Act → World → Prop} {md : Region.Mode} {S : World → Prop}

/-- The operations in that order: each that is marked true yields its value in every world that meets S; behind each other one S holds. -/
def seqH (P : Program) (ops : Array Oper) (Q : Exit → Act → World → Prop) (S : World → Prop) : List (Nat × Bool) → Act → World → Prop
  | [], a, w => Q .normal a w
  | (i, true) :: σ, a, w => ∃ o v, ops[i]? = some o ∧ YieldsIf P ops S o v a ∧ seqH P ops Q S σ (a.put o.dst v) w
  | (i, false) :: σ, a, w => wpOp P ops Q i (fun a' w' => S w' ∧ seqH P ops Q S σ a' w') a w

theorem seq_take {i : Nat} {σ : List (Nat × Bool)} {o : Oper} {v : Value} {a : Act} {w : World} (ho : ops.toList[i]? = some o) (hw : Region.wanted o (yielded ops a.tmps) = true)
    (hy : ∀ w, S w → (execOp a.eval o).run P w = .ok (.value v) w) (h : seqH P ops Q S σ (a.put o.dst v) w) : seqH P ops Q S ((i, true) :: σ) a w :=
  ⟨o, v, by rw [← Array.getElem?_toList]; exact ho, .inl ⟨hw, hy⟩, h⟩
theorem seq_skip {i : Nat} {σ : List (Nat × Bool)} {o : Oper} {a : Act} {w : World} (ho : ops.toList[i]? = some o) (hw : Region.wanted o (yielded ops a.tmps) = false)
    (h : seqH P ops Q S σ (a.put o.dst undef) w) : seqH P ops Q S ((i, true) :: σ) a w :=
  ⟨o, undef, by rw [← Array.getElem?_toList]; exact ho, .inr ⟨hw, rfl⟩, h⟩
theorem seq_run {i : Nat} {σ : List (Nat × Bool)} {o : Oper} {a : Act} {w : World} (ho : ops.toList[i]? = some o)
    (h : ∀ K' : Act → World → Prop, Shut (∀ a w, S w → (S w → seqH P ops Q S σ a w) → K' a w) → if Region.wanted o (yielded ops a.tmps) = true then Oper.wp P o a w K' Q else K' (a.put o.dst undef) w) :
    seqH P ops Q S ((i, false) :: σ) a w :=
  wpOp_step (by rw [← Array.getElem?_toList]; exact ho) (fun K' hK => h K' (fun a w hS hW => hK a w ⟨hS, hW hS⟩))
theorem seq_done {a : Act} {w : World} (h : Q .normal a w) : seqH P ops Q S [] a w := h

theorem quiet_put (hQ : ∀ c t v a w, Q (.panic c) (Act.put a (some t) v) w → Q (.panic c) a w) (c : List PanicEntry) (d : Option Tmp) (v : Value) (a : Act) (w : World) (h : Q (.panic c) (Act.put a d v) w) : Q (.panic c) a w := by
  cases d with
  | none => exact h
  | some t => exact hQ c t v a w h

theorem seqH_sound (hs : Region.noSelect ops = true) (hQ : ∀ c t v a w, Q (.panic c) (Act.put a (some t) v) w → Q (.panic c) a w) :
    ∀ (σ : List (Nat × Bool)) (fuel : Nat) (listed : Array Bool) (a : Act) (w : World), Sched md ops σ listed = true → σ.length ≤ fuel → S w → seqH P ops Q S σ a w → wpAnyH P md ops Q S fuel listed a w
  | [], fuel, listed, a, w, hc, _, _, h => wpAnyH_done (by simpa [Sched] using hc) h fuel
  | (i, true) :: σ, 0, _, _, _, _, hl, _, _ => by simp at hl
  | (i, true) :: σ, fuel + 1, listed, a, w, hc, hl, hS, h => by
    obtain ⟨o, v, ho, hy, hr⟩ := h
    simp only [Sched, Bool.and_eq_true] at hc
    exact wpAnyH_take ho hs hc.1 hc.2.1 (fun c a w => quiet_put hQ c o.dst v a w) hy hS (seqH_sound hs hQ σ fuel _ _ _ hc.2.2 (by simpa using hl) hS hr)
  | (i, false) :: σ, 0, _, _, _, _, hl, _, _ => by simp at hl
  | (i, false) :: σ, fuel + 1, listed, a, w, hc, hl, hS, h => by
    simp only [Sched, Bool.and_eq_true, beq_iff_eq] at hc
    refine wpAnyH_all hc.1 (by simp) (fun j hj => ?_)
    obtain rfl : j = i := by simpa using hj
    exact wpOp_mono (fun a' w' h' => ⟨h'.1, seqH_sound hs hQ σ fuel _ _ _ hc.2 (by simpa using hl) h'.1 h'.2⟩) h

/-- THE BEGINNING: S is 'all that was there when the statement began is there still'. -/
theorem wp_region_seq {id : Nat} {a : Act} {w : World} (σ : List (Nat × Bool)) (hm : P.follows .mixedOrders = true) (hs : Region.noSelect ops = true) (hc : Sched .any ops σ (Array.replicate ops.size false) = true) (hl : σ.length ≤ ops.size)
    (hQ : ∀ c t v a w, Q (.panic c) (Act.put a (some t) v) w → Q (.panic c) a w) (h : Below w.heap.size w w.drew → seqH P ops Q (fun w' => Below w.heap.size w w') σ a w.drew) : (Code.region id ops true).wp P Q a w :=
  have hb : Below w.heap.size w w.drew := (Below.refl _ _).drew
  wp_region_held (S := fun w' => Below w.heap.size w w') hm (seqH_sound hs hQ σ _ _ _ _ hc hl hb (h hb))

theorem below_rule {W w' : World} (h : Below W.heap.size W w') : ∀ a, (W.cell? a).isSome = true → w'.cell? a = W.cell? a := fun a ha => by
  obtain ⟨u, hu⟩ := Option.isSome_iff_exists.1 ha
  exact h.cell (World.block_lt_of_cell? W a hu)
end

/-- The same, with a condition S of one's own. -/
theorem wp_region_seqS {P : Program} {ops : Array Oper} {Q : Exit → Act → World → Prop} {id : Nat} {a : Act} {w : World} (S : World → Prop) (σ : List (Nat × Bool)) (hm : P.follows .mixedOrders = true) (hs : Region.noSelect ops = true) (hc : Sched .any ops σ (Array.replicate ops.size false) = true) (hl : σ.length ≤ ops.size)
    (hQ : ∀ c t v a w, Q (.panic c) (Act.put a (some t) v) w → Q (.panic c) a w) (h0 : S w.drew) (h : seqH P ops Q S σ a w.drew) : (Code.region id ops true).wp P Q a w :=
  wp_region_held (S := S) hm (seqH_sound hs hQ σ _ _ _ _ hc hl h0 h)
end

section
open Go.RowKit

inductive Sc where
  | nil : Sc
  | take : Nat → Sc → Sc
  | one : Nat → Sc → Sc
  | two : Nat → Sc → Nat → Sc → Sc
  | three : Nat → Sc → Nat → Sc → Nat → Sc → Sc

def Sc.size : Sc → Nat
  | .nil => 0
  | .take _ σ => σ.size + 1
  | .one _ σ => σ.size + 1
  | .two _ σ _ τ => max σ.size τ.size + 1
  | .three _ σ _ τ _ υ => max σ.size (max τ.size υ.size) + 1

/-- Is this a tree of all orders in which the operations can come up? -/
def SchedT (md : Region.Mode) (ops : Array Oper) : Sc → Array Bool → Bool
  | .nil, listed => (Region.ready md ops listed).isEmpty
  | .take i σ, listed => Region.free md ops listed i && ((Region.ready md ops listed).contains i && SchedT md ops σ (listed.setIfInBounds i true))
  | .one i σ, listed => (Region.ready md ops listed == [i]) && SchedT md ops σ (listed.setIfInBounds i true)
  | .two i σ j τ, listed => (Region.ready md ops listed == [i, j]) && (SchedT md ops σ (listed.setIfInBounds i true) && SchedT md ops τ (listed.setIfInBounds j true))
  | .three i σ j τ k υ, listed => (Region.ready md ops listed == [i, j, k]) && (SchedT md ops σ (listed.setIfInBounds i true) && (SchedT md ops τ (listed.setIfInBounds j true) && SchedT md ops υ (listed.setIfInBounds k true)))

section
variable {P : Program} {ops : Array Oper} {Q : Exit → Act → World → Prop} {md : Region.Mode} {S : World → Prop}

def seqT (P : Program) (ops : Array Oper) (Q : Exit → Act → World → Prop) (S : World → Prop) : Sc → Act → World → Prop
  | .nil, a, w => Q .normal a w
  | .take i σ, a, w => ∃ o v, ops[i]? = some o ∧ YieldsIf P ops S o v a ∧ seqT P ops Q S σ (a.put o.dst v) w
  | .one i σ, a, w => wpOp P ops Q i (fun a' w' => S w' ∧ seqT P ops Q S σ a' w') a w
  | .two i σ j τ, a, w => wpOp P ops Q i (fun a' w' => S w' ∧ seqT P ops Q S σ a' w') a w ∧ wpOp P ops Q j (fun a' w' => S w' ∧ seqT P ops Q S τ a' w') a w
  | .three i σ j τ k υ, a, w => wpOp P ops Q i (fun a' w' => S w' ∧ seqT P ops Q S σ a' w') a w ∧ wpOp P ops Q j (fun a' w' => S w' ∧ seqT P ops Q S τ a' w') a w ∧ wpOp P ops Q k (fun a' w' => S w' ∧ seqT P ops Q S υ a' w') a w

theorem seqT_take {i : Nat} {σ : Sc} {o : Oper} {v : Value} {a : Act} {w : World} (ho : ops.toList[i]? = some o) (hw : Region.wanted o (yielded ops a.tmps) = true)
    (hy : ∀ w, S w → (execOp a.eval o).run P w = .ok (.value v) w) (h : seqT P ops Q S σ (a.put o.dst v) w) : seqT P ops Q S (.take i σ) a w :=
  ⟨o, v, by rw [← Array.getElem?_toList]; exact ho, .inl ⟨hw, hy⟩, h⟩
theorem seqT_done {a : Act} {w : World} (h : Q .normal a w) : seqT P ops Q S .nil a w := h
/-- One operation that is run. -/
theorem runT {i : Nat} {σ : Sc} {o : Oper} {a : Act} {w : World} (ho : ops.toList[i]? = some o)
    (h : ∀ K' : Act → World → Prop, Shut (∀ a w, S w → (S w → seqT P ops Q S σ a w) → K' a w) → if Region.wanted o (yielded ops a.tmps) = true then Oper.wp P o a w K' Q else K' (a.put o.dst undef) w) :
    wpOp P ops Q i (fun a' w' => S w' ∧ seqT P ops Q S σ a' w') a w :=
  wpOp_step (by rw [← Array.getElem?_toList]; exact ho) (fun K' hK => h K' (fun a w hS hW => hK a w ⟨hS, hW hS⟩))

theorem seqT_sound (hs : Region.noSelect ops = true) (hQ : ∀ c t v a w, Q (.panic c) (Act.put a (some t) v) w → Q (.panic c) a w) :
    ∀ (σ : Sc) (fuel : Nat) (listed : Array Bool) (a : Act) (w : World), SchedT md ops σ listed = true → σ.size ≤ fuel → S w → seqT P ops Q S σ a w → wpAnyH P md ops Q S fuel listed a w
  | .nil, fuel, listed, a, w, hc, _, _, h => wpAnyH_done (by simpa [SchedT] using hc) h fuel
  | .take i σ, 0, _, _, _, _, hl, _, _ => by simp [Sc.size] at hl
  | .take i σ, fuel + 1, listed, a, w, hc, hl, hS, h => by
    obtain ⟨o, v, ho, hy, hr⟩ := h
    simp only [SchedT, Bool.and_eq_true] at hc
    exact wpAnyH_take ho hs hc.1 hc.2.1 (fun c a w => quiet_put hQ c o.dst v a w) hy hS (seqT_sound hs hQ σ fuel _ _ _ hc.2.2 (by simpa [Sc.size] using hl) hS hr)
  | .one i σ, 0, _, _, _, _, hl, _, _ => by simp [Sc.size] at hl
  | .one i σ, fuel + 1, listed, a, w, hc, hl, hS, h => by
    simp only [SchedT, Bool.and_eq_true, beq_iff_eq] at hc
    refine wpAnyH_all hc.1 (by simp) (fun j hj => ?_)
    obtain rfl : j = i := by simpa using hj
    exact wpOp_mono (fun a' w' h' => ⟨h'.1, seqT_sound hs hQ σ fuel _ _ _ hc.2 (by simpa [Sc.size] using hl) h'.1 h'.2⟩) h
  | .two i σ j τ, 0, _, _, _, _, hl, _, _ => by simp [Sc.size] at hl
  | .two i σ j τ, fuel + 1, listed, a, w, hc, hl, hS, h => by
    simp only [SchedT, Bool.and_eq_true, beq_iff_eq] at hc
    simp only [Sc.size] at hl
    refine wpAnyH_all hc.1 (by simp) (fun q hq => ?_)
    simp only [List.mem_cons, List.not_mem_nil, or_false] at hq
    rcases hq with rfl | rfl
    · exact wpOp_mono (fun a' w' h' => ⟨h'.1, seqT_sound hs hQ σ fuel _ _ _ hc.2.1 (by omega) h'.1 h'.2⟩) h.1
    · exact wpOp_mono (fun a' w' h' => ⟨h'.1, seqT_sound hs hQ τ fuel _ _ _ hc.2.2 (by omega) h'.1 h'.2⟩) h.2
  | .three i σ j τ k υ, 0, _, _, _, _, hl, _, _ => by simp [Sc.size] at hl
  | .three i σ j τ k υ, fuel + 1, listed, a, w, hc, hl, hS, h => by
    simp only [SchedT, Bool.and_eq_true, beq_iff_eq] at hc
    simp only [Sc.size] at hl
    refine wpAnyH_all hc.1 (by simp) (fun q hq => ?_)
    simp only [List.mem_cons, List.not_mem_nil, or_false] at hq
    rcases hq with rfl | rfl | rfl
    · exact wpOp_mono (fun a' w' h' => ⟨h'.1, seqT_sound hs hQ σ fuel _ _ _ hc.2.1 (by omega) h'.1 h'.2⟩) h.1
    · exact wpOp_mono (fun a' w' h' => ⟨h'.1, seqT_sound hs hQ τ fuel _ _ _ hc.2.2.1 (by omega) h'.1 h'.2⟩) h.2.1
    · exact wpOp_mono (fun a' w' h' => ⟨h'.1, seqT_sound hs hQ υ fuel _ _ _ hc.2.2.2 (by omega) h'.1 h'.2⟩) h.2.2

theorem wp_region_seqT {id : Nat} {a : Act} {w : World} (S : World → Prop) (σ : Sc) (hm : P.follows .mixedOrders = true) (hs : Region.noSelect ops = true) (hc : SchedT .any ops σ (Array.replicate ops.size false) = true) (hl : σ.size ≤ ops.size)
    (hQ : ∀ c t v a w, Q (.panic c) (Act.put a (some t) v) w → Q (.panic c) a w) (h0 : S w.drew) (h : seqT P ops Q S σ a w.drew) : (Code.region id ops true).wp P Q a w :=
  wp_region_held (S := S) hm (seqT_sound hs hQ σ _ _ _ _ hc hl h0 h)
end
end

section
open Go.ChangeShapes Go.WideShapes Go.ChangeAt Go.RowKit Go.Deep

theorem addr_add (b off i : Nat) : ({ block := b, off := off, spot := none } : Addr).add i = { block := b, off := off + i, spot := none } := by
  unfold Addr.add
  split
  · rename_i h
    subst h
    rfl
  · rfl

/-- What one cell may hold: an int of a kind; a bool; a string. -/
abbrev CK := Sum IntKind Bool

def FitC (k : CK) (c : Value) : Prop :=
  match k with
  | .inl k => ∃ n, c = .int k n ∧ (Lit.int k n).wf = true
  | .inr true => ∃ b, c = .bool b
  | .inr false => ∃ s : ByteArray, c = .string s ∧ s.size ≤ maxLen

def Fit : List CK → List Value → Prop
  | [], [] => True
  | k :: ks, c :: cs => FitC k c ∧ Fit ks cs
  | _, _ => False

theorem fit_cons {k : CK} {ks : List CK} {l : List Value} (h : Fit (k :: ks) l) : ∃ c cs, l = c :: cs ∧ FitC k c ∧ Fit ks cs := by
  cases l with
  | nil => exact h.elim
  | cons c cs => exact ⟨c, cs, rfl, h.1, h.2⟩
theorem fit_nil {l : List Value} (h : Fit [] l) : l = [] := by
  cases l with
  | nil => rfl
  | cons c cs => exact h.elim
theorem fit_append : ∀ {a b : List CK} {x y : List Value}, Fit a x → Fit b y → Fit (a ++ b) (x ++ y)
  | [], _, [], _, _, hb => hb
  | [], _, _ :: _, _, ha, _ => ha.elim
  | _ :: _, _, [], _, ha, _ => ha.elim
  | _ :: _, _, _ :: _, _, ha, hb => ⟨ha.1, fit_append ha.2 hb⟩
theorem fit_length : ∀ {a : List CK} {x : List Value}, Fit a x → x.length = a.length
  | [], [], _ => rfl
  | [], _ :: _, h => h.elim
  | _ :: _, [], h => h.elim
  | _ :: _, _ :: _, h => by simp [fit_length h.2]

def flatFs (P : Program) (r : TypeId → Option (List CK)) : List Field → Nat → Option (List CK)
  | [], _ => some []
  | f :: fs, off =>
    if f.offset = off then
      match r f.type with
      | some l => if P.cellsOf f.type = l.length then (flatFs P r fs (off + l.length)).map (l ++ ·) else none
      | none => none
    else none

/-- The kinds of a type's cells, if it is made of ints, bools, strings and structs of these. -/
def flat (P : Program) : Nat → TypeId → Option (List CK)
  | 0, _ => none
  | n + 1, t =>
    match P.underlying t with
    | some .bool => some [.inr true]
    | some .string => some [.inr false]
    | some (.int k) => some [.inl k]
    | some (.struct fs) =>
      match flatFs P (flat P n) fs.toList 0 with
      | some ks => if P.cellsOf t = ks.length then some ks else none
      | none => none
    | _ => none

section
variable {H : Type} {enc : TypeId × Value → H} {P : Program} {w : World} {base : Nat} {spare : Nat → Bool} {held : Bool}

theorem fit_fields {r : TypeId → Option (List CK)} {m : Nat} {cs : List Value}
    (hr : ∀ (t : TypeId) (ks : List CK) (l : List Value) (x : DataW H × List MemPlace), r t = some ks → DataW.trod enc P w base spare held m t l = some x → Fit ks l) :
    ∀ (fs : List Field) (off : Nat) (ks : List CK), (∀ f ∈ fs, ∃ x, DataW.trod enc P w base spare held m f.type ((cs.drop f.offset).take (P.cellsOf f.type)) = some x) → flatFs P r fs off = some ks → Fit ks ((cs.drop off).take ks.length)
  | [], _, ks, _, h => by
    simp only [flatFs, Option.some.injEq] at h
    subst h
    simp [Fit]
  | f :: fs, off, ks, hx, h => by
    unfold flatFs at h
    split at h
    · rename_i ho
      split at h
      · rename_i l hl
        split at h
        · rename_i hc
          obtain ⟨ks', h1, rfl⟩ := Option.map_eq_some_iff.1 h
          have h2 := fit_fields hr fs (off + l.length) ks' (fun g hg => hx g (List.mem_cons_of_mem _ hg)) h1
          obtain ⟨x, h3⟩ := hx f List.mem_cons_self
          have h4 := hr f.type l _ x hl h3
          rw [ho, hc] at h4
          have h5 := fit_append h4 h2
          rw [List.length_append, List.take_add, List.drop_drop]
          exact h5
        · cases h
      · cases h
    · cases h

theorem fit_of_trod : ∀ (n : Nat) (t : TypeId) (ks : List CK) (fuel : Nat) (cs : List Value) (x : DataW H × List MemPlace), flat P n t = some ks → DataW.trod enc P w base spare held fuel t cs = some x → Fit ks cs
  | 0, _, _, _, _, _, h, _ => by cases h
  | n + 1, t, ks, fuel, cs, x, h, ht => by
    unfold flat at h
    split at h
    · rename_i hu
      obtain ⟨b, rfl, _⟩ := DataW.trod_bool hu ht
      cases h
      exact ⟨⟨b, rfl⟩, trivial⟩
    · rename_i hu
      obtain ⟨b, rfl, _, hs⟩ := DataW.trod_string hu ht
      cases h
      exact ⟨⟨b, rfl, hs⟩, trivial⟩
    · rename_i k hu
      obtain ⟨b, rfl, _, hs⟩ := DataW.trod_int hu ht
      cases h
      exact ⟨⟨b, rfl, hs⟩, trivial⟩
    · rename_i fs hu
      split at h
      · rename_i ks' hk
        split at h
        · rename_i hc
          cases h
          obtain ⟨xs, m, rfl, _, hlen, hxl, hf⟩ := DataW.trod_struct hu ht
          have h1 : ∀ f ∈ fs.toList, ∃ x, DataW.trod enc P w base spare held m f.type ((cs.drop f.offset).take (P.cellsOf f.type)) = some x := by
            intro f hm
            obtain ⟨i, hi, he⟩ := List.getElem_of_mem hm
            have hi' : i < fs.size := by simpa using hi
            have he' : fs[i]? = some f := by rw [Array.getElem?_eq_getElem hi']; simpa using he
            exact ⟨_, (hf i f he').trans (List.getElem?_eq_getElem (by omega))⟩
          have h2 := fit_fields (fun t ks l x a b => fit_of_trod n t ks m l x a b) fs.toList 0 ks h1 hk
          rw [List.drop_zero, List.take_of_length_le (by omega)] at h2
          exact h2
        · cases h
      · cases h
    · cases h

theorem open_flat {r : Reach} {b0 : Nat} {t : TypeId} {fs : Array Field} {n : Nat} {ks : List CK} {v : Value} {d : DataW H} {p : List MemPlace} (hs : P.underlying t = some (.struct fs)) (hk : flat P n t = some ks)
    (hv : Value.okWide P w r b0 t v) (h : DataW.Trod enc P w base spare held t v d p) : ∃ l : List Value, v = .agg ⟨l⟩ ∧ Fit ks l := by
  obtain ⟨cs, rfl, _⟩ := okWide_struct hs hv
  obtain ⟨fuel, hf⟩ := h
  exact ⟨cs.toList, rfl, fit_of_trod n t ks fuel _ _ hk hf⟩

/-- What a walk is told of a slice of such elements: cell j of element i. -/
def IsRows (w : World) (ks : List CK) (a : Option Addr) (len cap : Nat) : Prop :=
  len ≤ cap ∧ cap ≤ maxLen ∧ (a = none → len = 0 ∧ cap = 0) ∧ (0 < len → ∃ b off, a = some ⟨b, off, none⟩) ∧
    ∀ b off, a = some ⟨b, off, none⟩ → ∀ i, i < len → ∃ cs, Fit ks cs ∧ ∀ j v, cs[j]? = some v → w.cell? ⟨b, off + (i * ks.length + j), none⟩ = some v

theorem open_rows {r : Reach} {b0 : Nat} {t e : TypeId} {n : Nat} {ks : List CK} {v : Value} {d : DataW H} {p : List MemPlace} (hs : P.underlying t = some (.slice e)) (hk : flat P n e = some ks) (hc : P.cellsOf e = ks.length) (hpos : 0 < ks.length)
    (hv : Value.okWide P w r b0 t v) (h : DataW.Trod enc P w base spare held t v d p) : ∃ a len cap, v = .slice a len cap ∧ IsRows w ks a len cap := by
  obtain ⟨a, len, cap, rfl⟩ := okWide_slice hs hv
  refine ⟨a, len, cap, rfl, ?_⟩
  obtain ⟨fuel, hf⟩ := h
  rcases open_slice hs hf with ⟨hcs, _⟩ | ⟨x, l, c, m, f, D, Pl, hcs, hb, hl, hm, hmm, _, hi⟩
  · simp [Value.cells] at hcs
    obtain ⟨rfl, rfl, rfl⟩ := hcs
    exact ⟨Nat.le_refl _, Nat.zero_le _, (fun _ => ⟨rfl, rfl⟩), (fun h => absurd h (by omega)), (fun _ _ h => by cases h)⟩
  · simp [Value.cells] at hcs
    obtain ⟨rfl, rfl, rfl⟩ := hcs
    have hlm : len ≤ m := by rw [hmm]; split <;> omega
    refine ⟨hl, hm, (fun h => by cases h), fun h0 => ?_, fun b off hx i hil => ?_⟩
    · obtain ⟨cs', h1, h2⟩ := hi 0 (by omega)
      obtain ⟨_, hcl, hat⟩ := World.cells?_some h1
      have hc0 := hat 0 (by omega)
      have hlt : 0 < cs'.length := by omega
      rw [List.getElem?_eq_getElem hlt] at hc0
      obtain ⟨b, off, spot⟩ := x
      have hsp : spot = none := by simpa [Addr.add] using World.cell?_spot hc0
      subst hsp
      exact ⟨b, off, rfl⟩
    · cases hx
      obtain ⟨cs', h1, h2⟩ := hi i (by omega)
      obtain ⟨_, hcl, hat⟩ := World.cells?_some h1
      refine ⟨cs', fit_of_trod n e ks f cs' _ hk h2, fun j v hj => ?_⟩
      have hjl : j < cs'.length := (List.getElem?_eq_some_iff.1 hj).1
      have h3 := hat j (by omega)
      rw [hj, hc] at h3
      rw [addr_add, addr_add, Nat.add_assoc] at h3
      exact h3
end
end

section
open Go.RowKit
set_option linter.unusedVariables false

/-- All blocks that were there, but those of T, are as they were. -/
structure Keep (T : Nat → Prop) (w w' : World) : Prop where
  os : w'.os = w.os
  tape : w'.tape = w.tape
  output : w'.output = w.output
  size : w.heap.size ≤ w'.heap.size
  block : ∀ k, k < w.heap.size → ¬ T k → w'.heap[k]? = w.heap[k]?

theorem Keep.refl (T : Nat → Prop) (w : World) : Keep T w w := ⟨rfl, rfl, rfl, Nat.le_refl _, fun _ _ _ => rfl⟩
theorem Keep.mono {T T' : Nat → Prop} {w w' : World} (h : Keep T w w') (hT : ∀ k, T k → T' k) : Keep T' w w' := ⟨h.os, h.tape, h.output, h.size, fun k hk hn => h.block k hk (fun ht => hn (hT k ht))⟩
theorem Keep.trans {T : Nat → Prop} {a b c : World} (h : Keep T a b) (k : Keep T b c) : Keep T a c :=
  ⟨k.os.trans h.os, k.tape.trans h.tape, k.output.trans h.output, Nat.le_trans h.size k.size, fun i hi hn => (k.block i (Nat.lt_of_lt_of_le hi h.size) hn).trans (h.block i hi hn)⟩
/-- What is done in blocks of T, or in such as have come since. -/
theorem Keep.then' {T T' : Nat → Prop} {a b c : World} (h : Keep T a b) (k : Keep T' b c) (hT : ∀ i, T' i → T i ∨ a.heap.size ≤ i) : Keep T a c :=
  ⟨k.os.trans h.os, k.tape.trans h.tape, k.output.trans h.output, Nat.le_trans h.size k.size, fun i hi hn => (k.block i (Nat.lt_of_lt_of_le hi h.size) (fun ht => (hT i ht).elim hn (fun hl => by omega))).trans (h.block i hi hn)⟩
theorem Keep.of_below {T : Nat → Prop} {w w' : World} (h : Below w.heap.size w w') : Keep T w w' := ⟨h.os, h.tape, h.output, h.size, fun k hk _ => h.block k hk⟩
theorem Keep.drew {T : Nat → Prop} {a w : World} (h : Keep T a w) : Keep T a w.drew := ⟨h.os, h.tape, h.output, h.size, h.block⟩
theorem Keep.alloc {T : Nat → Prop} {a w : World} (h : Keep T a w) (o : Obj) : Keep T a (w.alloc o) :=
  h.trans (Keep.of_below (below_new (Below.refl _ _) o))
theorem Keep.setCell {T : Nat → Prop} {a w : World} (h : Keep T a w) (p : Addr) (hp : T p.block) (u : Value) : Keep T a (w.setCell p u) :=
  h.trans ⟨rfl, rfl, rfl, by simp [World.setCell], fun k _ hn => Below.heap_setCell _ _ _ _ (fun e => hn (e ▸ hp))⟩
theorem Keep.of_grown {T : Nat → Prop} {w w' : World} {row : Option Nat} (h : w.grownBy w' row) (hr : ∀ k, row = some k → T k) : Keep T w w' :=
  ⟨h.os, h.tape, h.output, h.size, fun k hk hn => h.block k hk (fun e => hn (hr k e.symm))⟩
theorem below_keep {B : Nat} {T : Nat → Prop} {a w w' : World} (h : Below B a w) (k : Keep T w w') (hB : B ≤ w.heap.size) (hT : ∀ i, T i → B ≤ i) : Below B a w' :=
  h.trans ⟨k.os, k.tape, k.output, k.size, fun i hi => k.block i (by omega) (fun ht => by have := hT i ht; omega)⟩
theorem below_step' {B : Nat} {w W W' : World} (h : Below B w W) (h' : Below W.heap.size W W') (hB : B ≤ W.heap.size) : Below B w W' := h.trans (h'.mono hB)
theorem Keep.cell {T : Nat → Prop} {w w' : World} (h : Keep T w w') {a : Addr} {v : Value} (hc : w.cell? a = some v) (hn : ¬ T a.block) : w'.cell? a = some v :=
  (World.cell?_of_block (h.block a.block (World.block_lt_of_cell? w a hc) hn)).trans hc
theorem Keep.frozen {T : Nat → Prop} {w w' : World} (h : Keep T w w') {a : Addr} (hl : a.block < w.heap.size) (hn : ¬ T a.block) : w'.frozen? a = w.frozen? a :=
  World.frozen?_of_block (h.block a.block hl hn)
theorem Keep.row {T : Nat → Prop} {w w' : World} {base : Nat} {e : TypeId} {sz : Nat} {v : Value} {n : Nat} {xs : List Value} (h : Keep T w w') (ho : w.ownsRow base e sz v n xs) (hn : ∀ k, v.ownBlock = some k → ¬ T k) : w'.ownsRow base e sz v n xs := by
  refine ⟨ho.1, ?_⟩
  rcases ho.2 with h1 | ⟨g, cap, cur, rfl, hg, hh, h3⟩
  · exact .inl h1
  · exact .inr ⟨g, cap, cur, rfl, hg, by rw [h.block g (Array.getElem?_eq_some_iff.1 hh).1 (hn g rfl)]; exact hh, h3⟩
theorem row_base {w : World} {base base' : Nat} {e : TypeId} {sz : Nat} {v : Value} {n : Nat} {xs : List Value} (h : w.ownsRow base e sz v n xs) (hb : base' ≤ base) : w.ownsRow base' e sz v n xs := by
  refine ⟨h.1, ?_⟩
  rcases h.2 with h1 | ⟨g, cap, cur, hv, hg, hh, h3⟩
  · exact .inl h1
  · exact .inr ⟨g, cap, cur, hv, by omega, hh, h3⟩

theorem run_append_nil_src {P : Program} (w : World) (base : Nat) (t ty e : TypeId) (i : TypeInfo) (size : Nat) (ht : P.underlying t = some (.slice e)) (hi : P.info? e = some i)
    (v : Value) (n : Nat) (xs : List Value) (hown : w.ownsRow base e size v n xs) (c : Nat) : (Builtin.append_ #[t, t] ty #[v, .slice none 0 c]).run P w = .ok v w := by
  rcases hown.2 with ⟨rfl, rfl⟩ | ⟨g, cap, cur, rfl, _, _, hnc, _⟩
  · simp [Builtin.append_, run_underlying ht, sizeOf, typeInfo, hi, Builtin.lenOf, Builtin.firstCells]
  · simp [Builtin.append_, run_underlying ht, sizeOf, typeInfo, hi, Builtin.lenOf, Builtin.firstCells, hnc, storeCells]

/-- The block of a row behind an append: the same one, or a new one. -/
def Moved (w : World) (v v' : Value) : Prop := ∀ k, v'.ownBlock = some k → v.ownBlock = some k ∨ w.heap.size ≤ k

theorem moved_refl (w : World) (v : Value) : Moved w v v := fun _ h => .inl h
theorem Moved.trans {w w' : World} {v v' v'' : Value} (h : Moved w v v') (h' : Moved w' v' v'') (hs : w.heap.size ≤ w'.heap.size) : Moved w v v'' := fun k hk => by
  rcases h' k hk with h1 | h1
  · exact h k h1
  · exact .inr (by omega)

/-- What is appended lies at A, or there is nothing to append. -/
structure Src (w : World) (size : Nat) (A : Option Addr) (m : Nat) (news : List Value) : Prop where
  nil : A = none → m = 0
  len : news.length = m * size
  at' : ∀ ad, A = some ad → ∀ j u, news[j]? = some u → w.cell? (ad.add j) = some u
  one : ∀ u ∈ news, u.oneCell' = true

theorem src_later {w w' : World} {size : Nat} {A : Option Addr} {m : Nat} {news : List Value} (h : Src w size A m news) (hb : Below w.heap.size w w') : Src w' size A m news :=
  ⟨h.nil, h.len, fun ad had j u hj => (Keep.of_below (T := fun _ => False) hb).cell (h.at' ad had j u hj) (fun h => h), h.one⟩

/-- What is known of an element type: its row in the program's table. -/
structure ElemAt (P : Program) (t e : TypeId) (z : Value) (size bytes : Nat) : Prop where
  und : P.underlying t = some (.slice e)
  info : ∃ i, P.info? e = some i ∧ i.zero = some z ∧ i.size = size ∧ i.bytes = bytes
  zs : z.cells.size = size
  pos : 0 < size

theorem ElemAt.mk' {P : Program} {t e : TypeId} {z : Value} {size bytes : Nat} (h1 : P.underlying t = some (.slice e)) (h : (P.info? e).map (fun i => (i.zero, i.size, i.bytes)) = some (some z, size, bytes)) (hz : z.cells.size = size) (hp : 0 < size) : ElemAt P t e z size bytes := by
  obtain ⟨i, a, b, c, d⟩ := info_parts h
  exact ⟨h1, ⟨i, a, b, c, d⟩, hz, hp⟩

/-- What is known behind an append. -/
structure Grew (w w' : World) (base : Nat) (e : TypeId) (size : Nat) (v v' : Value) (n : Nat) (xs : List Value) : Prop where
  own : w'.ownsRow base e size v' n xs
  grown : w.grownBy w' v.ownBlock
  moved : Moved w v v'
  below : ∀ k, v'.ownBlock = some k → base ≤ k

theorem own_shape {w : World} {base : Nat} {e : TypeId} {sz : Nat} {v : Value} {n : Nat} {xs : List Value} (h : w.ownsRow base e sz v n xs) : ∃ A cap, v = .slice A n cap := by
  rcases h.2 with ⟨h, h0⟩ | ⟨g, cap, _, h, _⟩
  · exact ⟨none, 0, by rw [h0]; exact h⟩
  · exact ⟨_, cap, h⟩

theorem run_append_grew {P : Program} (w : World) (base : Nat) (t ty e : TypeId) (z : Value) (size bytes : Nat) (he : ElemAt P t e z size bytes) (v : Value) (n : Nat) (xs : List Value) (hown : w.ownsRow base e size v n xs)
    (A : Option Addr) (m c : Nat) (news : List Value) (hA : Src w size A m news) (h63 : n + m ≤ maxLen) (hbytes : (n + m) * bytes ≤ 140737488355328) (hbase : base ≤ w.heap.size) :
    ∃ v' w', (Builtin.append_ #[t, t] ty #[v, .slice A m c]).run P w = .ok v' w' ∧ Grew w w' base e size v v' (n + m) (xs ++ news) := by
  obtain ⟨ht, ⟨i, hi, hz, hsize, hby⟩, hzs, hsz⟩ := he
  cases A with
  | none =>
    obtain rfl := hA.nil rfl
    have hn : news = [] := List.eq_nil_of_length_eq_zero (by simpa using hA.len)
    subst hn
    exact ⟨v, w, run_append_nil_src w base t ty e i size ht hi v n xs hown c, by simpa using hown, ⟨rfl, rfl, rfl, Nat.le_refl _, fun _ _ _ => rfl⟩, moved_refl _ _, fun k hk => (hown.lt k hk).1⟩
  | some ad =>
    obtain ⟨v', w', hr, h2, h3, h4, h5⟩ := run_append_own_at (P := P) w base t ty e i z size bytes ht hi hz hsize hby hzs hsz v n xs hown ad m c news hA.len (hA.at' ad rfl) hA.one h63 hbytes hbase
    refine ⟨v', w', hr, h2, h3, fun k hk => ?_, fun k hk => (h2.lt k hk).1⟩
    rcases h5 with h5 | h5
    · exact .inl (by rw [← h5]; exact hk)
    · rw [h5, Option.some.injEq] at hk
      exact .inr (by omega)

theorem wp_append_grew {P : Program} {o : Oper} {a : Act} {w : World} {K : Act → World → Prop} {Q : Exit → Act → World → Prop} (s x : Operand) (t : TypeId)
    (ho : o.op = .call { callee := .builtin .append, args := #[s, x], argTypes := #[t, t] })
    (base : Nat) (e : TypeId) (z : Value) (size bytes : Nat) (he : ElemAt P t e z size bytes) (v : Value) (n : Nat) (xs : List Value) (hs : a.eval s = v) (hown : w.ownsRow base e size v n xs)
    (A : Option Addr) (m c : Nat) (news : List Value) (hx : a.eval x = .slice A m c) (hA : Src w size A m news) (h63 : n + m ≤ maxLen) (hbytes : (n + m) * bytes ≤ 140737488355328) (hbase : base ≤ w.heap.size)
    (h : ∀ v' w', Grew w w' base e size v v' (n + m) (xs ++ news) → K (a.put o.dst v') w') : Oper.wp P o a w K Q := by
  obtain ⟨v', w', hr, h2⟩ := run_append_grew (P := P) w base t o.type e z size bytes he v n xs hown A m c news hA h63 hbytes hbase
  unfold Oper.wp execOp
  simp only [ho, resolve, invoke, builtin, Sem.run_bind, Sem.run_pure, Result.andThen_ok, List.map_toArray, List.map_cons, List.map_nil, hs, hx, hr]
  exact h v' w' h2

/-- As a step of a drawn region ('go_region_law'). -/
theorem step_append_grew {P : Program} {ops : Array Oper} {o : Oper} {a : Act} {w : World} {K : Act → World → Prop} {Q : Exit → Act → World → Prop} {E : Prop} (hg : o.guard = none) (s x : Operand) (t : TypeId)
    (ho : o.op = .call { callee := .builtin .append, args := #[s, x], argTypes := #[t, t] })
    (base : Nat) (e : TypeId) (z : Value) (size bytes : Nat) (he : ElemAt P t e z size bytes) (v : Value) (n : Nat) (xs : List Value) (hs : a.eval s = v) (hown : w.ownsRow base e size v n xs)
    (A : Option Addr) (m c : Nat) (news : List Value) (hx : a.eval x = .slice A m c) (hA : Src w size A m news) (h63 : n + m ≤ maxLen) (hbytes : (n + m) * bytes ≤ 140737488355328) (hbase : base ≤ w.heap.size)
    (h : ∀ v' w', Grew w w' base e size v v' (n + m) (xs ++ news) → K (a.put o.dst v') w') : if Region.wanted o (yielded ops a.tmps) = true then Oper.wp P o a w K Q else E := by
  have hw : Region.wanted o (yielded ops a.tmps) = true := by simp [Region.wanted, hg]
  rw [if_pos hw]
  exact wp_append_grew s x t ho base e z size bytes he v n xs hs hown A m c news hx hA h63 hbytes hbase h

/-- As an operation of a plain statement. -/
theorem list_append_grew {P : Program} {ops : Array Oper} {rest : List Oper} {o : Oper} {a : Act} {w : World} {Q : Exit → Act → World → Prop} (hg : o.guard = none) (s x : Operand) (t : TypeId)
    (ho : o.op = .call { callee := .builtin .append, args := #[s, x], argTypes := #[t, t] })
    (base : Nat) (e : TypeId) (z : Value) (size bytes : Nat) (he : ElemAt P t e z size bytes) (v : Value) (n : Nat) (xs : List Value) (hs : a.eval s = v) (hown : w.ownsRow base e size v n xs)
    (A : Option Addr) (m c : Nat) (news : List Value) (hx : a.eval x = .slice A m c) (hA : Src w size A m news) (h63 : n + m ≤ maxLen) (hbytes : (n + m) * bytes ≤ 140737488355328) (hbase : base ≤ w.heap.size)
    (h : ∀ v' w', Grew w w' base e size v v' (n + m) (xs ++ news) → wpList P ops Q rest (a.put o.dst v') w') : wpList P ops Q (o :: rest) a w :=
  wpList_plain hg fun _ hK => wp_append_grew s x t ho base e z size bytes he v n xs hs hown A m c news hx hA h63 hbytes hbase fun v' w' h2 => hK _ _ (h v' w' h2)
end

section
open Go.RowKit
set_option linter.unusedVariables false

abbrev pt (p : Nat) : Value := .pointer (some ⟨p, 0, none⟩)
theorem addr_add' (b off i : Nat) : ({ block := b, off := off, spot := none } : Addr).add i = { block := b, off := off + i, spot := none } := by
  unfold Addr.add
  split
  · rename_i h
    subst h
    rfl
  · rfl

/-- Something that lies in blocks F. -/
structure Thing where
  P : World → Prop
  F : Nat → Prop

structure Thing.Ok (base : Nat) (A : Thing) : Prop where
  keep : ∀ (w w' : World) (T : Nat → Prop), A.P w → Keep T w w' → (∀ i, A.F i → ¬ T i) → A.P w'
  lt : ∀ (w : World) (i : Nat), A.P w → A.F i → base ≤ i ∧ i < w.heap.size

/-- All that a call holds which began in W. -/
structure Hold (W w : World) (l : List Thing) : Prop where
  size : W.heap.size ≤ w.heap.size
  below : Below W.heap.size W w
  ok : ∀ (i : Nat) (A : Thing), l[i]? = some A → A.Ok W.heap.size
  has : ∀ (i : Nat) (A : Thing), l[i]? = some A → A.P w
  apart : ∀ (i j : Nat) (A B : Thing), l[i]? = some A → l[j]? = some B → i ≠ j → ∀ k, A.F k → ¬ B.F k

section
variable {W w w' : World} {l : List Thing}

theorem Hold.nil {W w : World} (h : Below W.heap.size W w) : Hold W w [] := ⟨h.size, h, (fun _ _ h => by simp at h), (fun _ _ h => by simp at h), fun _ _ _ _ h => by simp at h⟩

theorem Hold.keep0 (h : Hold W w l) {T : Nat → Prop} (k : Keep T w w') (hT : ∀ i, T i → W.heap.size ≤ i) (hn : ∀ (i : Nat) (A : Thing), l[i]? = some A → ∀ q, A.F q → ¬ T q) : Hold W w' l :=
  ⟨Nat.le_trans h.size k.size, below_keep h.below k h.size hT, h.ok, fun i A hi => (h.ok i A hi).keep w w' T (h.has i A hi) k (hn i A hi), h.apart⟩
theorem Hold.later (h : Hold W w l) (e : Below w.heap.size w w') : Hold W w' l :=
  h.keep0 (T := fun _ => False) (Keep.of_below e) (fun _ h => h.elim) (fun _ _ _ _ _ h => h)
theorem Hold.drew (h : Hold W w l) : Hold W w.drew l := h.later (Below.refl _ _).drew

theorem set_cases {l : List Thing} {i j : Nat} {A B A' : Thing} (hi : l[i]? = some A) (hj : (l.set i A')[j]? = some B) : (i = j ∧ B = A') ∨ (i ≠ j ∧ l[j]? = some B) := by
  rw [List.getElem?_set] at hj
  by_cases h : i = j
  · subst h
    rw [if_pos rfl, if_pos (List.getElem?_eq_some_iff.1 hi).1] at hj
    exact .inl ⟨rfl, (Option.some.inj hj).symm⟩
  · rw [if_neg h] at hj
    exact .inr ⟨h, hj⟩

/-- One thing is turned. -/
theorem Hold.turn (h : Hold W w l) (i : Nat) {A A' : Thing} (hi : l[i]? = some A) (k : Keep A.F w w') (ok' : A'.Ok W.heap.size) (hP : A'.P w') (hF : ∀ q, A'.F q → A.F q ∨ w.heap.size ≤ q) : Hold W w' (l.set i A') := by
  have hlt := fun q => (h.ok i A hi).lt w q (h.has i A hi)
  have hold : ∀ (j : Nat) (B : Thing), l[j]? = some B → i ≠ j → B.P w' := fun j B hj hne => (h.ok j B hj).keep w w' A.F (h.has j B hj) k (fun q hq => h.apart j i B A hj hi (fun e => hne e.symm) q hq)
  refine ⟨Nat.le_trans h.size k.size, below_keep h.below k h.size (fun q hq => (hlt q hq).1), fun j B hj => ?_, fun j B hj => ?_, fun j e B E hj he hne q hq hq' => ?_⟩
  · rcases set_cases hi hj with ⟨_, rfl⟩ | ⟨_, hj⟩
    · exact ok'
    · exact h.ok j B hj
  · rcases set_cases hi hj with ⟨_, rfl⟩ | ⟨hij, hj⟩
    · exact hP
    · exact hold j B hj hij
  · rcases set_cases hi hj with ⟨h1, rfl⟩ | ⟨h1, hj1⟩
    · rcases set_cases hi he with ⟨h2, rfl⟩ | ⟨h2, he1⟩
      · omega
      · rcases hF q hq with h3 | h3
        · exact h.apart i e A E hi he1 h2 q h3 hq'
        · have := ((h.ok e E he1).lt w q (h.has e E he1) hq').2
          omega
    · rcases set_cases hi he with ⟨h2, rfl⟩ | ⟨h2, he1⟩
      · rcases hF q hq' with h3 | h3
        · exact h.apart j i B A hj1 hi (fun e => h1 e.symm) q hq h3
        · have := ((h.ok j B hj1).lt w q (h.has j B hj1) hq).2
          omega
      · exact h.apart j e B E hj1 he1 hne q hq hq'

/-- Two things are turned. -/
theorem Hold.turn2 (h : Hold W w l) (i j : Nat) {A A' B B' : Thing} (hne : i ≠ j) (hi : l[i]? = some A) (hj : l[j]? = some B) (k : Keep (fun q => B.F q ∨ A.F q) w w') (okA : A'.Ok W.heap.size) (okB : B'.Ok W.heap.size) (hA : A'.P w') (hB : B'.P w')
    (hFA : ∀ q, A'.F q → A.F q ∨ w.heap.size ≤ q) (hFB : ∀ q, B'.F q → B.F q) : Hold W w' ((l.set i A').set j B') := by
  have hj' : (l.set i A')[j]? = some B := by rw [List.getElem?_set, if_neg hne]; exact hj
  have hltA := fun q => (h.ok i A hi).lt w q (h.has i A hi)
  have hltB := fun q => (h.ok j B hj).lt w q (h.has j B hj)
  have hold : ∀ (e : Nat) (E : Thing), l[e]? = some E → i ≠ e → j ≠ e → E.P w' := fun e E he h1 h2 => (h.ok e E he).keep w w' _ (h.has e E he) k (fun q hq hc => hc.elim (h.apart e j E B he hj (fun x => h2 x.symm) q hq) (h.apart e i E A he hi (fun x => h1 x.symm) q hq))
  have cases2 : ∀ (e : Nat) (E : Thing), ((l.set i A').set j B')[e]? = some E → (e = j ∧ E = B') ∨ (e = i ∧ E = A') ∨ (i ≠ e ∧ j ≠ e ∧ l[e]? = some E) := by
    intro e E he
    rcases set_cases hj' he with ⟨h1, rfl⟩ | ⟨h1, he⟩
    · exact .inl ⟨h1.symm, rfl⟩
    · rcases set_cases hi he with ⟨h2, rfl⟩ | ⟨h2, he⟩
      · exact .inr (.inl ⟨h2.symm, rfl⟩)
      · exact .inr (.inr ⟨h2, h1, he⟩)
  have AB : ∀ q, A'.F q → B'.F q → False := fun q h1 h2 => by
    rcases hFA q h1 with h3 | h3
    · exact h.apart i j A B hi hj hne q h3 (hFB q h2)
    · have := (hltB q (hFB q h2)).2
      omega
  have AE : ∀ (e : Nat) (E : Thing) (q : Nat), l[e]? = some E → i ≠ e → E.F q → A'.F q → False := fun e E q he h1 h2 h3 => by
    rcases hFA q h3 with h4 | h4
    · exact h.apart i e A E hi he h1 q h4 h2
    · have := ((h.ok e E he).lt w q (h.has e E he) h2).2
      omega
  have BE : ∀ (e : Nat) (E : Thing) (q : Nat), l[e]? = some E → j ≠ e → E.F q → B'.F q → False := fun e E q he h1 h2 h3 => h.apart j e B E hj he h1 q (hFB q h3) h2
  refine ⟨Nat.le_trans h.size k.size, below_keep h.below k h.size (fun q hq => hq.elim (fun h => (hltB q h).1) (fun h => (hltA q h).1)), fun e E he => ?_, fun e E he => ?_, fun e f E G he hf hef q hq hq' => ?_⟩
  · rcases cases2 e E he with ⟨_, rfl⟩ | ⟨_, rfl⟩ | ⟨_, _, he⟩
    · exact okB
    · exact okA
    · exact h.ok e E he
  · rcases cases2 e E he with ⟨_, rfl⟩ | ⟨_, rfl⟩ | ⟨h1, h2, he⟩
    · exact hB
    · exact hA
    · exact hold e E he h1 h2
  · rcases cases2 e E he with ⟨h1, rfl⟩ | ⟨h1, rfl⟩ | ⟨h1, h2, he1⟩
    · rcases cases2 f G hf with ⟨h3, rfl⟩ | ⟨h3, rfl⟩ | ⟨h3, h4, hf1⟩
      · omega
      · exact AB q hq' hq
      · exact BE f G q hf1 h4 hq' hq
    · rcases cases2 f G hf with ⟨h3, rfl⟩ | ⟨h3, rfl⟩ | ⟨h3, h4, hf1⟩
      · exact AB q hq hq'
      · omega
      · exact AE f G q hf1 h3 hq' hq
    · rcases cases2 f G hf with ⟨h3, rfl⟩ | ⟨h3, rfl⟩ | ⟨h3, h4, hf1⟩
      · exact BE e E q he1 h2 hq hq'
      · exact AE e E q he1 h1 hq hq'
      · exact h.apart e f E G he1 hf1 hef q hq hq'

/-- Something new. -/
theorem Hold.more (h : Hold W w l) {A : Thing} (e : Below w.heap.size w w') (ok : A.Ok W.heap.size) (hP : A.P w') (hF : ∀ q, A.F q → w.heap.size ≤ q) : Hold W w' (l ++ [A]) := by
  have h' := h.later e
  have cs : ∀ (i : Nat) (B : Thing), (l ++ [A])[i]? = some B → l[i]? = some B ∨ (i = l.length ∧ B = A) := by
    intro i B hi
    rcases Nat.lt_or_ge i l.length with hl | hl
    · rw [List.getElem?_append_left hl] at hi
      exact .inl hi
    · rw [List.getElem?_append_right hl] at hi
      rcases (by omega : i - l.length = 0 ∨ 1 ≤ i - l.length) with h0 | h0
      · rw [h0] at hi
        exact .inr ⟨by omega, (Option.some.inj hi).symm⟩
      · rw [List.getElem?_eq_none (by simpa using h0)] at hi
        cases hi
  refine ⟨h'.size, h'.below, fun i B hi => ?_, fun i B hi => ?_, fun i j B E hi hj hne q hq hq' => ?_⟩
  · rcases cs i B hi with hi | ⟨_, rfl⟩
    · exact h.ok i B hi
    · exact ok
  · rcases cs i B hi with hi | ⟨_, rfl⟩
    · exact h'.has i B hi
    · exact hP
  · rcases cs i B hi with hi1 | ⟨h1, rfl⟩
    · rcases cs j E hj with hj1 | ⟨h2, rfl⟩
      · exact h.apart i j B E hi1 hj1 hne q hq hq'
      · have := ((h.ok i B hi1).lt w q (h.has i B hi1) hq).2
        have := hF q hq'
        omega
    · rcases cs j E hj with hj1 | ⟨h2, rfl⟩
      · have := ((h.ok j E hj1).lt w q (h.has j E hj1) hq').2
        have := hF q hq
        omega
      · omega

/-- The first ones alone. -/
theorem Hold.less {m : List Thing} (h : Hold W w (l ++ m)) : Hold W w l :=
  have up : ∀ (i : Nat) (A : Thing), l[i]? = some A → (l ++ m)[i]? = some A := fun i A hi => by rw [List.getElem?_append_left (List.getElem?_eq_some_iff.1 hi).1]; exact hi
  ⟨h.size, h.below, fun i A hi => h.ok i A (up i A hi), fun i A hi => h.has i A (up i A hi), fun i j A B hi hj => h.apart i j A B (up i A hi) (up j B hj)⟩

/-- What came from outside is as it was. -/
theorem Hold.old (h : Hold W w l) {a : Addr} {x : Value} (ha : a.block < W.heap.size) (hx : W.cell? a = some x) : w.cell? a = some x := (h.below.cell (p := a) ha).trans hx
end

/-- A struct in a block. -/
structure IsObj (w : World) (b : Nat) (xs : List Value) : Prop where
  at' : ∀ j x, xs[j]? = some x → w.cell? ⟨b, j, none⟩ = some x
  fz : ∀ o, w.frozen? ⟨b, o, none⟩ = false
  lt : b < w.heap.size

section
variable {w w' : World} {b : Nat} {xs : List Value}
theorem IsObj.keep {T : Nat → Prop} (h : IsObj w b xs) (e : Keep T w w') (hn : ¬ T b) : IsObj w' b xs :=
  ⟨fun j x hx => e.cell (h.at' j x hx) hn, fun o => (e.frozen (a := ⟨b, o, none⟩) h.lt hn).trans (h.fz o), Nat.lt_of_lt_of_le h.lt e.size⟩
theorem IsObj.later (h : IsObj w b xs) (e : Below w.heap.size w w') : IsObj w' b xs := h.keep (T := fun _ => False) (Keep.of_below e) (fun h => h)
theorem IsObj.drew (h : IsObj w b xs) : IsObj w.drew b xs := ⟨h.at', h.fz, h.lt⟩
theorem IsObj.set (h : IsObj w b xs) (i : Nat) (u : Value) : IsObj (w.setCell ⟨b, i, none⟩ u) b (xs.set i u) := by
  refine ⟨fun j x hj => ?_, fun o => by rw [World.frozen?_setCell]; exact h.fz o, by simpa [World.setCell] using h.lt⟩
  rw [List.getElem?_set] at hj
  by_cases hij : i = j
  · subst hij
    rw [if_pos rfl] at hj
    split at hj
    · rename_i hl
      cases hj
      exact World.cell?_setCell_same _ _ _ (h.at' i _ (List.getElem?_eq_getElem hl))
    · cases hj
  · rw [if_neg hij] at hj
    rw [World.cell?_setCell_other _ _ _ _ (fun e => hij (by injection e))]
    exact h.at' j x hj
theorem IsObj.other {a : Nat} (h : IsObj w b xs) (i : Nat) (u : Value) (hne : a ≠ b) : IsObj (w.setCell ⟨a, i, none⟩ u) b xs :=
  ⟨fun j x hj => by rw [World.cell?_setCell_other _ _ _ _ (fun e => hne (by injection e))]; exact h.at' j x hj, fun o => by rw [World.frozen?_setCell]; exact h.fz o, by simpa [World.setCell] using h.lt⟩
theorem IsObj.made (w : World) (xs : List Value) (t : TypeId) : IsObj (w.alloc (.cells ⟨xs⟩ t)) w.heap.size xs :=
  ⟨fun j x hj => by
    have h := World.cell?_alloc_new w ⟨xs⟩ t j
    rw [← Array.getElem?_toList] at h
    exact h.trans hj, fun o => World.frozen?_alloc_at _ _ _ _ rfl, by simp⟩
end

theorem elem_u64 : ElemAt Tryz.prog 105 30 (.int .u64 0) 1 8 :=
  ElemAt.mk' Tryz.underlying105 (by kernel_rfl) rfl (by decide)
theorem elem_i64 : ElemAt Tryz.prog 187 3 (.int .i64 0) 1 8 := ElemAt.mk' Tryz.underlying187 (by kernel_rfl) rfl (by decide)

def tRow (base : Nat) (e : TypeId) (sz : Nat) (v : Value) (n : Nat) (xs : List Value) : Thing := ⟨fun w => w.ownsRow base e sz v n xs, fun k => v.ownBlock = some k⟩
def tObj (base b : Nat) (xs : List Value) : Thing := ⟨fun w => IsObj w b xs ∧ base ≤ b, fun i => i = b⟩

theorem tRow_ok (base : Nat) (e : TypeId) (sz : Nat) (v : Value) (n : Nat) (xs : List Value) : (tRow base e sz v n xs).Ok base :=
  ⟨fun _ _ _ h k hn => k.row h hn, fun _ i h hi => World.ownsRow.lt h i hi⟩
theorem tObj_ok (base b : Nat) (xs : List Value) : (tObj base b xs).Ok base :=
  ⟨fun _ _ _ h k hn => ⟨h.1.keep k (hn b rfl), h.2⟩, fun _ i h hi => by cases hi; exact ⟨h.2, h.1.lt⟩⟩
end

section
open Go.RowKit
set_option linter.unusedVariables false

theorem src_list (w : World) (cs : List Value) (ty : TypeId) (size m : Nat) (hl : cs.length = m * size) (h1 : ∀ u ∈ cs, u.oneCell' = true) : Src (w.alloc (.cells cs.toArray ty)) size (some ⟨w.heap.size, 0, none⟩) m cs :=
  ⟨(fun h => by cases h), hl, fun ad had j u hj => by
    cases had
    rw [addr_add', Nat.zero_add]
    have : (w.alloc (.cells cs.toArray ty)).cell? ⟨w.heap.size, j, none⟩ = cs.toArray[j]? := World.cell?_alloc_new w _ _ j
    rw [this, List.getElem?_toArray]
    exact hj, h1⟩
theorem one_int (k : IntKind) (x : Int) : ∀ u ∈ [Value.int k x], u.oneCell' = true := by
  intro u hu
  simp at hu
  rw [hu]
  rfl

section
variable {W w w' : World} {l : List Thing}
theorem Hold.append (h : Hold W w l) (i : Nat) {base : Nat} {e : TypeId} {sz n n' : Nat} {v v' : Value} {xs xs' : List Value} (hb : base = W.heap.size) (hi : l[i]? = some (tRow base e sz v n xs)) (g : Grew w w' base e sz v v' n' xs') : Hold W w' (l.set i (tRow base e sz v' n' xs')) := by
  subst hb
  exact h.turn i hi (Keep.of_grown g.grown (fun k hk => hk)) (tRow_ok _ _ _ _ _ _) g.own (fun q hq => g.moved q hq)
theorem Hold.stored (h : Hold W w l) (i : Nat) {e : TypeId} {n cap g : Nat} {xs : List Value} (hi : l[i]? = some (tRow W.heap.size e 1 (.slice (some ⟨g, 0, none⟩) n cap) n xs)) (j : Nat) (u : Value) :
    Hold W (w.setCell ⟨g, j, none⟩ u) (l.set i (tRow W.heap.size e 1 (.slice (some ⟨g, 0, none⟩) n cap) n (xs.set j u))) := by
  have hr : w.ownsRow W.heap.size e 1 (.slice (some ⟨g, 0, none⟩) n cap) n xs := h.has i _ hi
  have k : Keep (tRow W.heap.size e 1 (.slice (some ⟨g, 0, none⟩) n cap) n xs).F w (w.setCell ⟨g, j, none⟩ u) := (Keep.refl _ _).setCell ⟨g, j, none⟩ (by show some g = some g; rfl) u
  exact h.turn i hi k (tRow_ok _ _ _ _ _ _) (hr.stored j u).1 (fun q hq => .inl hq)
/-- An empty row. -/
theorem tRow_made (w : World) (base : Nat) (e : TypeId) (sz : Nat) (hb : base ≤ w.heap.size) : (tRow base e sz (.slice (some ⟨w.heap.size, 0, none⟩) 0 0) 0 []).P (w.alloc (.cells #[] e)) :=
  World.ownsRow_made (base := base) (e := e) (size := sz) w #[] 0 hb (by unfold maxLen; omega) (by simp)
theorem tRow_new {w : World} {base : Nat} {e : TypeId} {sz n cap : Nat} {xs : List Value} : ∀ q, (tRow base e sz (.slice (some ⟨w.heap.size, 0, none⟩) n cap) n xs).F q → w.heap.size ≤ q := by
  intro q hq
  cases hq
  exact Nat.le_refl _
end

/-- A row of numbers that is not empty. -/
theorem row_shape {w : World} {base : Nat} {e : TypeId} {n : Nat} {v : Value} {xs : List Value} (h : w.ownsRow base e 1 v n xs) (hn : 0 < n) : ∃ g cap, v = .slice (some ⟨g, 0, none⟩) n cap ∧ n ≤ cap ∧ g < w.heap.size := by
  rcases h.2 with ⟨_, h0⟩ | ⟨g, cap, cur, rfl, _, hh, hc, _⟩
  · omega
  · exact ⟨g, cap, rfl, hc, (Array.getElem?_eq_some_iff.1 hh).1⟩
theorem row_at {w : World} {base : Nat} {e : TypeId} {n cap g : Nat} {X : List Int} {k : IntKind} (h : w.ownsRow base e 1 (.slice (some ⟨g, 0, none⟩) n cap) n (X.map (Value.int k))) {j : Nat} (hj : j < n) : w.cell? ⟨g, j, none⟩ = some (.int k (X.getD j 0)) := by
  have hl := h.1
  rw [List.length_map] at hl
  rw [h.cellAt j (by omega), List.getElem?_map, List.getD_eq_getElem?_getD, List.getElem?_eq_getElem (by omega)]
  rfl
end

section
open Go.RowKit

theorem and_i64 (a : Int) (m k : Nat) (hm : m + 1 = 2 ^ k) (hk : k ≤ 32) : bits .and .i64 a (m : Int) = a % ((m : Int) + 1) := by
  have h2 : 2 ^ k ≤ 2 ^ 32 := Nat.pow_le_pow_right (by decide) hk
  show IntKind.i64.wrap ((BitVec.ofInt 64 a &&& BitVec.ofInt 64 (m : Int)).toNat : Int) = _
  have hm' : (BitVec.ofInt 64 (m : Int)).toNat = m := by
    rw [BitVec.toNat_ofInt]
    omega
  rw [BitVec.toNat_and, hm', show m = 2 ^ k - 1 by omega, Nat.and_two_pow_sub_one_eq_mod, BitVec.toNat_ofInt, ← hm, IntKind.wrap_i64]
  have hd : ((m + 1 : Nat) : Int) ∣ 18446744073709551616 := by
    rw [hm]
    refine ⟨((2 ^ (64 - k) : Nat) : Int), ?_⟩
    rw [← Int.natCast_mul, ← Nat.pow_add, show k + (64 - k) = 64 by omega]
    rfl
  have e1 : (((a % ((2 ^ 64 : Nat) : Int)).toNat % (m + 1) : Nat) : Int) = a % ((m : Int) + 1) := by
    rw [Int.natCast_emod, Int.toNat_of_nonneg (by omega)]
    have := Int.emod_emod_of_dvd a hd
    simpa using this
  rw [e1]
  have h0 := Int.emod_nonneg a (show ((m : Int) + 1) ≠ 0 by omega)
  have h1 := Int.emod_lt_of_pos a (show (0 : Int) < (m : Int) + 1 by omega)
  have h3 : ((m : Int) + 1) ≤ 4294967296 := by
    have : m + 1 ≤ 4294967296 := by omega
    omega
  simp only [show m + 1 - 1 = m by omega]
  omega
end

end Go.Proofs.YtpfjommkjkbonaaGreat
