/-
  Plain lemmas, over any program: a statement whose order is open, where two or three operations may come up beside each other: all their orders, as a tree. No condition but that the tree is lawful (checked by computation).
-/
import Derived.Test.YtebgjfhaolgcjaaRegion
namespace Go.Proofs.Ytebgjfhaolgcjaa
open Go.RowKit

inductive Sc where
  | nil : Sc
  | take : Nat → Sc → Sc
  | one : Nat → Sc → Sc
  | two : Nat → Sc → Nat → Sc → Sc
  | three : Nat → Sc → Nat → Sc → Nat → Sc → Sc

def Sc.size : Sc → Nat
  | .nil => 0
  | .take _ σ => σ.size + 1
  | .one _ σ => σ.size + 1
  | .two _ σ _ τ => max σ.size τ.size + 1
  | .three _ σ _ τ _ υ => max σ.size (max τ.size υ.size) + 1

/-- Is this a tree of all orders in which the operations can come up? -/
def SchedT (md : Region.Mode) (ops : Array Oper) : Sc → Array Bool → Bool
  | .nil, listed => (Region.ready md ops listed).isEmpty
  | .take i σ, listed => Region.free md ops listed i && ((Region.ready md ops listed).contains i && SchedT md ops σ (listed.setIfInBounds i true))
  | .one i σ, listed => (Region.ready md ops listed == [i]) && SchedT md ops σ (listed.setIfInBounds i true)
  | .two i σ j τ, listed => (Region.ready md ops listed == [i, j]) && (SchedT md ops σ (listed.setIfInBounds i true) && SchedT md ops τ (listed.setIfInBounds j true))
  | .three i σ j τ k υ, listed => (Region.ready md ops listed == [i, j, k]) && (SchedT md ops σ (listed.setIfInBounds i true) && (SchedT md ops τ (listed.setIfInBounds j true) && SchedT md ops υ (listed.setIfInBounds k true)))

section
variable {P : Program} {ops : Array Oper} {Q : Exit → Act → World → Prop} {md : Region.Mode} {S : World → Prop}

def seqT (P : Program) (ops : Array Oper) (Q : Exit → Act → World → Prop) (S : World → Prop) : Sc → Act → World → Prop
  | .nil, a, w => Q .normal a w
  | .take i σ, a, w => ∃ o v, ops[i]? = some o ∧ YieldsIf P ops S o v a ∧ seqT P ops Q S σ (a.put o.dst v) w
  | .one i σ, a, w => wpOp P ops Q i (fun a' w' => S w' ∧ seqT P ops Q S σ a' w') a w
  | .two i σ j τ, a, w => wpOp P ops Q i (fun a' w' => S w' ∧ seqT P ops Q S σ a' w') a w ∧ wpOp P ops Q j (fun a' w' => S w' ∧ seqT P ops Q S τ a' w') a w
  | .three i σ j τ k υ, a, w => wpOp P ops Q i (fun a' w' => S w' ∧ seqT P ops Q S σ a' w') a w ∧ wpOp P ops Q j (fun a' w' => S w' ∧ seqT P ops Q S τ a' w') a w ∧ wpOp P ops Q k (fun a' w' => S w' ∧ seqT P ops Q S υ a' w') a w

theorem seqT_take {i : Nat} {σ : Sc} {o : Oper} {v : Value} {a : Act} {w : World} (ho : ops.toList[i]? = some o) (hw : Region.wanted o (yielded ops a.tmps) = true)
    (hy : ∀ w, S w → (execOp a.eval o).run P w = .ok (.value v) w) (h : seqT P ops Q S σ (a.put o.dst v) w) : seqT P ops Q S (.take i σ) a w :=
  ⟨o, v, by rw [← Array.getElem?_toList]; exact ho, .inl ⟨hw, hy⟩, h⟩
theorem seqT_done {a : Act} {w : World} (h : Q .normal a w) : seqT P ops Q S .nil a w := h
/-- One operation that is run. -/
theorem runT {i : Nat} {σ : Sc} {o : Oper} {a : Act} {w : World} (ho : ops.toList[i]? = some o)
    (h : ∀ K' : Act → World → Prop, Shut (∀ a w, S w → (S w → seqT P ops Q S σ a w) → K' a w) → if Region.wanted o (yielded ops a.tmps) = true then Oper.wp P o a w K' Q else K' (a.put o.dst undef) w) :
    wpOp P ops Q i (fun a' w' => S w' ∧ seqT P ops Q S σ a' w') a w :=
  wpOp_step (by rw [← Array.getElem?_toList]; exact ho) (fun K' hK => h K' (fun a w hS hW => hK a w ⟨hS, hW hS⟩))

theorem seqT_sound (hs : Region.noSelect ops = true) (hQ : ∀ c t v a w, Q (.panic c) (Act.put a (some t) v) w → Q (.panic c) a w) :
    ∀ (σ : Sc) (fuel : Nat) (listed : Array Bool) (a : Act) (w : World), SchedT md ops σ listed = true → σ.size ≤ fuel → S w → seqT P ops Q S σ a w → wpAnyH P md ops Q S fuel listed a w
  | .nil, fuel, listed, a, w, hc, _, _, h => wpAnyH_done (by simpa [SchedT] using hc) h fuel
  | .take i σ, 0, _, _, _, _, hl, _, _ => by simp [Sc.size] at hl
  | .take i σ, fuel + 1, listed, a, w, hc, hl, hS, h => by
    obtain ⟨o, v, ho, hy, hr⟩ := h
    simp only [SchedT, Bool.and_eq_true] at hc
    exact wpAnyH_take ho hs hc.1 hc.2.1 (fun c a w => quiet_put hQ c o.dst v a w) hy hS (seqT_sound hs hQ σ fuel _ _ _ hc.2.2 (by simpa [Sc.size] using hl) hS hr)
  | .one i σ, 0, _, _, _, _, hl, _, _ => by simp [Sc.size] at hl
  | .one i σ, fuel + 1, listed, a, w, hc, hl, hS, h => by
    simp only [SchedT, Bool.and_eq_true, beq_iff_eq] at hc
    refine wpAnyH_all hc.1 (by simp) (fun j hj => ?_)
    obtain rfl : j = i := by simpa using hj
    exact wpOp_mono (fun a' w' h' => ⟨h'.1, seqT_sound hs hQ σ fuel _ _ _ hc.2 (by simpa [Sc.size] using hl) h'.1 h'.2⟩) h
  | .two i σ j τ, 0, _, _, _, _, hl, _, _ => by simp [Sc.size] at hl
  | .two i σ j τ, fuel + 1, listed, a, w, hc, hl, hS, h => by
    simp only [SchedT, Bool.and_eq_true, beq_iff_eq] at hc
    simp only [Sc.size] at hl
    refine wpAnyH_all hc.1 (by simp) (fun q hq => ?_)
    simp only [List.mem_cons, List.not_mem_nil, or_false] at hq
    rcases hq with rfl | rfl
    · exact wpOp_mono (fun a' w' h' => ⟨h'.1, seqT_sound hs hQ σ fuel _ _ _ hc.2.1 (by omega) h'.1 h'.2⟩) h.1
    · exact wpOp_mono (fun a' w' h' => ⟨h'.1, seqT_sound hs hQ τ fuel _ _ _ hc.2.2 (by omega) h'.1 h'.2⟩) h.2
  | .three i σ j τ k υ, 0, _, _, _, _, hl, _, _ => by simp [Sc.size] at hl
  | .three i σ j τ k υ, fuel + 1, listed, a, w, hc, hl, hS, h => by
    simp only [SchedT, Bool.and_eq_true, beq_iff_eq] at hc
    simp only [Sc.size] at hl
    refine wpAnyH_all hc.1 (by simp) (fun q hq => ?_)
    simp only [List.mem_cons, List.not_mem_nil, or_false] at hq
    rcases hq with rfl | rfl | rfl
    · exact wpOp_mono (fun a' w' h' => ⟨h'.1, seqT_sound hs hQ σ fuel _ _ _ hc.2.1 (by omega) h'.1 h'.2⟩) h.1
    · exact wpOp_mono (fun a' w' h' => ⟨h'.1, seqT_sound hs hQ τ fuel _ _ _ hc.2.2.1 (by omega) h'.1 h'.2⟩) h.2.1
    · exact wpOp_mono (fun a' w' h' => ⟨h'.1, seqT_sound hs hQ υ fuel _ _ _ hc.2.2.2 (by omega) h'.1 h'.2⟩) h.2.2

theorem wp_region_seqT {id : Nat} {a : Act} {w : World} (S : World → Prop) (σ : Sc) (hm : P.follows .mixedOrders = true) (hs : Region.noSelect ops = true) (hc : SchedT .any ops σ (Array.replicate ops.size false) = true) (hl : σ.size ≤ ops.size)
    (hQ : ∀ c t v a w, Q (.panic c) (Act.put a (some t) v) w → Q (.panic c) a w) (h0 : S w.drew) (h : seqT P ops Q S σ a w.drew) : (Code.region id ops true).wp P Q a w :=
  wp_region_held (S := S) hm (seqT_sound hs hQ σ _ _ _ _ hc hl h0 h)
end
end Go.Proofs.Ytebgjfhaolgcjaa
