/-
  Plain lemmas: rows of numbers that a call holds: appended to, stored into, read. No condition.
-/
import Derived.Test.YtkdfgdhfjaapiaaDoorHoldCore
import Derived.OwnWalk
namespace Go.Proofs.YtkdfgdhfjaapiaaDoor
open Go.RowKit
set_option linter.unusedVariables false

theorem src_list (w : World) (cs : List Value) (ty : TypeId) (size m : Nat) (hl : cs.length = m * size) (h1 : ∀ u ∈ cs, u.oneCell' = true) : Src (w.alloc (.cells cs.toArray ty)) size (some ⟨w.heap.size, 0, none⟩) m cs :=
  ⟨(fun h => by cases h), hl, fun ad had j u hj => by
    cases had
    rw [addr_add', Nat.zero_add]
    have : (w.alloc (.cells cs.toArray ty)).cell? ⟨w.heap.size, j, none⟩ = cs.toArray[j]? := World.cell?_alloc_new w _ _ j
    rw [this, List.getElem?_toArray]
    exact hj, h1⟩
theorem one_int (k : IntKind) (x : Int) : ∀ u ∈ [Value.int k x], u.oneCell' = true := by
  intro u hu
  simp at hu
  rw [hu]
  rfl

section
variable {W w w' : World} {l : List Thing}
theorem Hold.append (h : Hold W w l) (i : Nat) {base : Nat} {e : TypeId} {sz n n' : Nat} {v v' : Value} {xs xs' : List Value} (hb : base = W.heap.size) (hi : l[i]? = some (tRow base e sz v n xs)) (g : Grew w w' base e sz v v' n' xs') : Hold W w' (l.set i (tRow base e sz v' n' xs')) := by
  subst hb
  exact h.turn i hi (Keep.of_grown g.grown (fun k hk => hk)) (tRow_ok _ _ _ _ _ _) g.own (fun q hq => g.moved q hq)
theorem Hold.stored (h : Hold W w l) (i : Nat) {e : TypeId} {n cap g : Nat} {xs : List Value} (hi : l[i]? = some (tRow W.heap.size e 1 (.slice (some ⟨g, 0, none⟩) n cap) n xs)) (j : Nat) (u : Value) :
    Hold W (w.setCell ⟨g, j, none⟩ u) (l.set i (tRow W.heap.size e 1 (.slice (some ⟨g, 0, none⟩) n cap) n (xs.set j u))) := by
  have hr : w.ownsRow W.heap.size e 1 (.slice (some ⟨g, 0, none⟩) n cap) n xs := h.has i _ hi
  have k : Keep (tRow W.heap.size e 1 (.slice (some ⟨g, 0, none⟩) n cap) n xs).F w (w.setCell ⟨g, j, none⟩ u) := (Keep.refl _ _).setCell ⟨g, j, none⟩ (by show some g = some g; rfl) u
  exact h.turn i hi k (tRow_ok _ _ _ _ _ _) (hr.stored j u).1 (fun q hq => .inl hq)
/-- An empty row. -/
theorem tRow_made (w : World) (base : Nat) (e : TypeId) (sz : Nat) (hb : base ≤ w.heap.size) : (tRow base e sz (.slice (some ⟨w.heap.size, 0, none⟩) 0 0) 0 []).P (w.alloc (.cells #[] e)) :=
  World.ownsRow_made (base := base) (e := e) (size := sz) w #[] 0 hb (by unfold maxLen; omega) (by simp)
theorem tRow_new {w : World} {base : Nat} {e : TypeId} {sz n cap : Nat} {xs : List Value} : ∀ q, (tRow base e sz (.slice (some ⟨w.heap.size, 0, none⟩) n cap) n xs).F q → w.heap.size ≤ q := by
  intro q hq
  cases hq
  exact Nat.le_refl _
end

/-- A row of numbers that is not empty. -/
theorem row_shape {w : World} {base : Nat} {e : TypeId} {n : Nat} {v : Value} {xs : List Value} (h : w.ownsRow base e 1 v n xs) (hn : 0 < n) : ∃ g cap, v = .slice (some ⟨g, 0, none⟩) n cap ∧ n ≤ cap ∧ g < w.heap.size := by
  rcases h.2 with ⟨_, h0⟩ | ⟨g, cap, cur, rfl, _, hh, hc, _⟩
  · omega
  · exact ⟨g, cap, rfl, hc, (Array.getElem?_eq_some_iff.1 hh).1⟩
theorem row_at {w : World} {base : Nat} {e : TypeId} {n cap g : Nat} {X : List Int} {k : IntKind} (h : w.ownsRow base e 1 (.slice (some ⟨g, 0, none⟩) n cap) n (X.map (Value.int k))) {j : Nat} (hj : j < n) : w.cell? ⟨g, j, none⟩ = some (.int k (X.getD j 0)) := by
  have hl := h.1
  rw [List.length_map] at hl
  rw [h.cellAt j (by omega), List.getElem?_map, List.getD_eq_getElem?_getD, List.getElem?_eq_getElem (by omega)]
  rfl

end Go.Proofs.YtkdfgdhfjaapiaaDoor
