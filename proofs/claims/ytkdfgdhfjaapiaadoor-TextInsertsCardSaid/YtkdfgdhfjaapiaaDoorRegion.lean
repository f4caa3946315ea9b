/-
  Plain lemmas, over any program: a statement whose order is open goes in whatever order as it goes in ONE listed order, where what is read is not written meanwhile. No condition but that the list is a lawful order (checked by computation).
-/
import Derived.Deep.RegionHeld3
import Derived.Test.YtkdfgdhfjaapiaaDoorBase
namespace Go.Proofs.YtkdfgdhfjaapiaaDoor
open Go.RowKit

/-- Is this list an order in which all operations can come up: those marked true may be taken ahead of whatever else may come up, of those marked false nothing else may come up beside them? -/
def Sched (md : Region.Mode) (ops : Array Oper) : List (Nat × Bool) → Array Bool → Bool
  | [], listed => (Region.ready md ops listed).isEmpty
  | (i, true) :: σ, listed => Region.free md ops listed i && ((Region.ready md ops listed).contains i && Sched md ops σ (listed.setIfInBounds i true))
  | (i, false) :: σ, listed => (Region.ready md ops listed == [i]) && Sched md ops σ (listed.setIfInBounds i true)

section
variable {P : Program} {ops : Array Oper} {Q : Exit → Act → World → Prop} {md : Region.Mode} {S : World → Prop}

/-- The operations in that order: each that is marked true yields its value in every world that meets S; behind each other one S holds. -/
def seqH (P : Program) (ops : Array Oper) (Q : Exit → Act → World → Prop) (S : World → Prop) : List (Nat × Bool) → Act → World → Prop
  | [], a, w => Q .normal a w
  | (i, true) :: σ, a, w => ∃ o v, ops[i]? = some o ∧ YieldsIf P ops S o v a ∧ seqH P ops Q S σ (a.put o.dst v) w
  | (i, false) :: σ, a, w => wpOp P ops Q i (fun a' w' => S w' ∧ seqH P ops Q S σ a' w') a w

theorem seq_take {i : Nat} {σ : List (Nat × Bool)} {o : Oper} {v : Value} {a : Act} {w : World} (ho : ops.toList[i]? = some o) (hw : Region.wanted o (yielded ops a.tmps) = true)
    (hy : ∀ w, S w → (execOp a.eval o).run P w = .ok (.value v) w) (h : seqH P ops Q S σ (a.put o.dst v) w) : seqH P ops Q S ((i, true) :: σ) a w :=
  ⟨o, v, by rw [← Array.getElem?_toList]; exact ho, .inl ⟨hw, hy⟩, h⟩
theorem seq_skip {i : Nat} {σ : List (Nat × Bool)} {o : Oper} {a : Act} {w : World} (ho : ops.toList[i]? = some o) (hw : Region.wanted o (yielded ops a.tmps) = false)
    (h : seqH P ops Q S σ (a.put o.dst undef) w) : seqH P ops Q S ((i, true) :: σ) a w :=
  ⟨o, undef, by rw [← Array.getElem?_toList]; exact ho, .inr ⟨hw, rfl⟩, h⟩
theorem seq_run {i : Nat} {σ : List (Nat × Bool)} {o : Oper} {a : Act} {w : World} (ho : ops.toList[i]? = some o)
    (h : ∀ K' : Act → World → Prop, Shut (∀ a w, S w → (S w → seqH P ops Q S σ a w) → K' a w) → if Region.wanted o (yielded ops a.tmps) = true then Oper.wp P o a w K' Q else K' (a.put o.dst undef) w) :
    seqH P ops Q S ((i, false) :: σ) a w :=
  wpOp_step (by rw [← Array.getElem?_toList]; exact ho) (fun K' hK => h K' (fun a w hS hW => hK a w ⟨hS, hW hS⟩))
theorem seq_done {a : Act} {w : World} (h : Q .normal a w) : seqH P ops Q S [] a w := h

theorem quiet_put (hQ : ∀ c t v a w, Q (.panic c) (Act.put a (some t) v) w → Q (.panic c) a w) (c : List PanicEntry) (d : Option Tmp) (v : Value) (a : Act) (w : World) (h : Q (.panic c) (Act.put a d v) w) : Q (.panic c) a w := by
  cases d with
  | none => exact h
  | some t => exact hQ c t v a w h

theorem seqH_sound (hs : Region.noSelect ops = true) (hQ : ∀ c t v a w, Q (.panic c) (Act.put a (some t) v) w → Q (.panic c) a w) :
    ∀ (σ : List (Nat × Bool)) (fuel : Nat) (listed : Array Bool) (a : Act) (w : World), Sched md ops σ listed = true → σ.length ≤ fuel → S w → seqH P ops Q S σ a w → wpAnyH P md ops Q S fuel listed a w
  | [], fuel, listed, a, w, hc, _, _, h => wpAnyH_done (by simpa [Sched] using hc) h fuel
  | (i, true) :: σ, 0, _, _, _, _, hl, _, _ => by simp at hl
  | (i, true) :: σ, fuel + 1, listed, a, w, hc, hl, hS, h => by
    obtain ⟨o, v, ho, hy, hr⟩ := h
    simp only [Sched, Bool.and_eq_true] at hc
    exact wpAnyH_take ho hs hc.1 hc.2.1 (fun c a w => quiet_put hQ c o.dst v a w) hy hS (seqH_sound hs hQ σ fuel _ _ _ hc.2.2 (by simpa using hl) hS hr)
  | (i, false) :: σ, 0, _, _, _, _, hl, _, _ => by simp at hl
  | (i, false) :: σ, fuel + 1, listed, a, w, hc, hl, hS, h => by
    simp only [Sched, Bool.and_eq_true, beq_iff_eq] at hc
    refine wpAnyH_all hc.1 (by simp) (fun j hj => ?_)
    obtain rfl : j = i := by simpa using hj
    exact wpOp_mono (fun a' w' h' => ⟨h'.1, seqH_sound hs hQ σ fuel _ _ _ hc.2 (by simpa using hl) h'.1 h'.2⟩) h

/-- THE BEGINNING: S is 'all that was there when the statement began is there still'. -/
theorem wp_region_seq {id : Nat} {a : Act} {w : World} (σ : List (Nat × Bool)) (hm : P.follows .mixedOrders = true) (hs : Region.noSelect ops = true) (hc : Sched .any ops σ (Array.replicate ops.size false) = true) (hl : σ.length ≤ ops.size)
    (hQ : ∀ c t v a w, Q (.panic c) (Act.put a (some t) v) w → Q (.panic c) a w) (h : Below w.heap.size w w.drew → seqH P ops Q (fun w' => Below w.heap.size w w') σ a w.drew) : (Code.region id ops true).wp P Q a w :=
  have hb : Below w.heap.size w w.drew := (Below.refl _ _).drew
  wp_region_held (S := fun w' => Below w.heap.size w w') hm (seqH_sound hs hQ σ _ _ _ _ hc hl hb (h hb))

theorem below_rule {W w' : World} (h : Below W.heap.size W w') : ∀ a, (W.cell? a).isSome = true → w'.cell? a = W.cell? a := fun a ha => by
  obtain ⟨u, hu⟩ := Option.isSome_iff_exists.1 ha
  exact h.cell (World.block_lt_of_cell? W a hu)
end

/-- The same, with a condition S of one's own. -/
theorem wp_region_seqS {P : Program} {ops : Array Oper} {Q : Exit → Act → World → Prop} {id : Nat} {a : Act} {w : World} (S : World → Prop) (σ : List (Nat × Bool)) (hm : P.follows .mixedOrders = true) (hs : Region.noSelect ops = true) (hc : Sched .any ops σ (Array.replicate ops.size false) = true) (hl : σ.length ≤ ops.size)
    (hQ : ∀ c t v a w, Q (.panic c) (Act.put a (some t) v) w → Q (.panic c) a w) (h0 : S w.drew) (h : seqH P ops Q S σ a w.drew) : (Code.region id ops true).wp P Q a w :=
  wp_region_held (S := S) hm (seqH_sound hs hQ σ _ _ _ _ hc hl h0 h)
end Go.Proofs.YtkdfgdhfjaapiaaDoor
