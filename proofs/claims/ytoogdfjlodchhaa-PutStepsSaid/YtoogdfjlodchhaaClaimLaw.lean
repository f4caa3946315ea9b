/-
  What the laws on claims have in common: what the call holds, the document's example, places as they are made. No condition.
-/
import Derived.Test.YtoogdfjlodchhaaMore
import Derived.Test.YtoogdfjlodchhaaClaimStep
import Derived.Test.YtoogdfjlodchhaaWordMore
import Derived.Test.YtoogdfjlodchhaaRows2
import Derived.Test.YtoogdfjlodchhaaWalkTickMost
namespace Go.Proofs.Ytoogdfjlodchhaa
open Go.RowKit
set_option linter.unusedVariables false

/-- Cells, a claim, and what else the call holds. -/
def ClHold (W w : World) (p c : Nat) (v : Value) (C : List Int) (L : List Ev) (b : Nat) (k : Cl) (R : List Thing) : Prop :=
  Hold W w (tMem W.heap.size p c v C L :: tObj W.heap.size b k.list :: R)

section
variable {W w w' : World} {p c b : Nat} {v v' : Value} {C C' : List Int} {L L' : List Ev} {k k' : Cl} {R : List Thing}
theorem ClHold.mem (h : ClHold W w p c v C L b k R) : IsMem W.heap.size w p c v C L := Hold.has h 0 _ rfl
theorem ClHold.obj (h : ClHold W w p c v C L b k R) : IsObj w b k.list := (Hold.has h 1 _ rfl).1
theorem ClHold.later (h : ClHold W w p c v C L b k R) (e : Below w.heap.size w w') : ClHold W w' p c v C L b k R := Hold.later h e
theorem ClHold.size (h : ClHold W w p c v C L b k R) : W.heap.size ≤ w.heap.size := Hold.size h
theorem ClHold.below (h : ClHold W w p c v C L b k R) : Below W.heap.size W w := Hold.below h
theorem ClHold.store (h : ClHold W w p c v C L b k R) (t : Touched W.heap.size w w' p c v v' C' L') : ClHold W w' p c v' C' L' b k R := Hold.mem h 0 rfl t
/-- A step. -/
theorem ClHold.call {n m : Int} {hz : Nat} (h : ClHold W w p c v C L b k R) (hk : k.Ok n m hz C) (hL : L.length < 1000000000) :
    Calls Try.prog 25 #[pt b, pt p] w fun r w' => r = .returned (i64 (k.step m hz C).ph) ∧ ∃ v', ClHold W w' p c v' C (L ++ k.ev hz C) b (k.step m hz C) R :=
  (clstep_any W.heap.size w b p c v C L k n m hz hk h.obj h.mem (Hold.free h 0 1 (by decide) rfl rfl b rfl) h.size hL).mono fun r w' ⟨hr, v', hd, hs⟩ =>
    ⟨hr, v', Hold.does h 0 1 (by decide) rfl rfl hd (tObj_ok _ _ _) ⟨hs, (Hold.has h 1 _ rfl).2⟩ (fun q hq => hq)⟩
theorem ClHold.begun (h : Hold W w (tMem W.heap.size p c v C L :: [])) (e : Below w.heap.size w w') (hk : IsObj w' b k.list) (hb : w.heap.size ≤ b) : ClHold W w' p c v C L b k [] :=
  Hold.more h e (tObj_ok _ _ _) ⟨hk, Nat.le_trans h.size hb⟩ (fun q hq => by cases hq; exact hb)
end

theorem Cl.ev_le (k : Cl) (hz : Nat) (C : List Int) : (k.ev hz C).length ≤ 1 := by
  unfold Cl.ev
  split <;> simp

theorem lay22' : Lay 2 2 4 := ⟨rfl, by omega, by omega, by omega, by omega, by omega, by omega, by omega⟩


theorem mod3 (a : Int) : ∃ v : Int, 0 ≤ v ∧ v ≤ 2 ∧ wrap64 ((IntKind.u64.wrap a).tmod 3) = v ∧ IntKind.i64.wrap ((IntKind.u64.wrap a).tmod 3) = v := by
  have h0 : 0 ≤ IntKind.u64.wrap a := by rw [IntKind.wrap_u64]; omega
  refine ⟨IntKind.u64.wrap a % 3, by omega, by omega, ?_, ?_⟩
  · rw [Int.tmod_eq_emod_of_nonneg h0]
    unfold wrap64
    omega
  · rw [Int.tmod_eq_emod_of_nonneg h0]
    exact IntWalk.i64_in _ (by omega)

/-- What a place says of itself as it is made: always a word that is right. -/
def PlacePost (w : World) (r : Ending) (w' : World) : Prop := ∃ s g : Int, r = .returned (wd s 0 g 0 0) ∧ 0 ≤ s ∧ s ≤ 2 ∧ 0 ≤ g ∧ g ≤ 8191 ∧ Below w.heap.size w w'

set_option maxHeartbeats 2000000 in
theorem place_any (a g : Int) (l : Bool) (w : World) : Calls Try.prog 71 #[.agg #[i64 a, i64 g, .bool l]] w (PlacePost w) := by
  obtain ⟨s, s0, s1, hs1, hs2⟩ := mod3 a
  obtain ⟨g3, hg3, k0, k1⟩ : ∃ u, bits .and .i64 g 3 = u ∧ 0 ≤ u ∧ u ≤ 3 := ⟨_, by rw [show (3 : Int) = ((3 : Nat) : Int) from rfl, and_i64 g 3 2 rfl (by decide)], by show (0 : Int) ≤ g % ((2 ^ 2 : Nat) : Int); omega, by show g % ((2 ^ 2 : Nat) : Int) ≤ 3; omega⟩
  obtain ⟨g1, hg1, j0, j1⟩ : ∃ u, bits .and .i64 g 1 = u ∧ 0 ≤ u ∧ u ≤ 1 := ⟨_, by rw [show (1 : Int) = ((1 : Nat) : Int) from rfl, and_i64 g 1 1 rfl (by decide)], by show (0 : Int) ≤ g % ((2 ^ 1 : Nat) : Int); omega, by show g % ((2 ^ 1 : Nat) : Int) ≤ 1; omega⟩
  by_cases h : bits .and .i64 g 64 = 64
  · have q : (bits .and .i64 g 64 == 64) = true := by simp [h]
    clear h
    go_enter Try.func71, Try.ntmps71
    go_wp2
    refine bodyPost_ret (v := wd s 0 (8191 - g1) 0 0) (by simp [results, Try.results71, go_sem]) rfl ⟨s, 8191 - g1, rfl, s0, s1, by omega, by omega, ?_⟩
    (try refine below_step ?_ hB); repeat (first | exact Below.refl _ _ | refine below_step ?_ (by assumption) | refine below_new ?_ _ | refine Below.drew ?_ | refine below_drawn ?_ _)
  · have q : (bits .and .i64 g 64 == 64) = false := by simp [h]
    clear h
    go_enter Try.func71, Try.ntmps71
    go_wp2
    refine bodyPost_ret (v := wd s 0 g3 0 0) (by simp [results, Try.results71, go_sem]) rfl ⟨s, g3, rfl, s0, s1, by omega, by omega, ?_⟩
    (try refine below_step ?_ hB); repeat (first | exact Below.refl _ _ | refine below_step ?_ (by assumption) | refine below_new ?_ _ | refine Below.drew ?_ | refine below_drawn ?_ _)

end Go.Proofs.Ytoogdfjlodchhaa
