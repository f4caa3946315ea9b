/-
  TickMost answers true for all numbers, and leaves all memory that was there as it was. No condition.
-/
import Derived.Test.YtoogdfjlodchhaaMore
import Derived.Test.YtoogdfjlodchhaaTickLaw
import Derived.Test.YtoogdfjlodchhaaTickPure
namespace Go.Proofs.Ytoogdfjlodchhaa
open Go.RowKit
set_option linter.unusedVariables false

theorem IsMem.nn {base : Nat} {w : World} {p c : Nat} {v : Value} {C : List Int} {L : List Ev} (h : IsMem base w p c v C L) (j : Nat) : 0 ≤ C.getD j 0 := by
  by_cases hj : j < C.length
  · exact (h.numAt (getD_at hj)).1
  · rw [List.getD_eq_getElem?_getD, List.getElem?_eq_none (by omega)]
    decide
theorem Lay.of4 {t : Int} (t1 : 1 ≤ t) (t2 : t ≤ 4) : Lay t 1 t := ⟨by omega, t1, by omega, by omega, by omega, by omega, by omega, by omega⟩
theorem zeros (n j : Nat) : (List.replicate n (0 : Int)).getD j 0 = 0 := by
  rw [List.getD_eq_getElem?_getD, List.getElem?_replicate]
  split <;> rfl

theorem most_alone {T so d : Int} (h0 : 0 ≤ so) (h4 : so ≤ 4) : (so = 2 → most T so d = 4 ∧ alone T so d = 3) ∧ (so ≠ 2 → alone T so d = most T so d) := by
  unfold most alone
  rcases (by omega : so = 0 ∨ so = 1 ∨ so = 2 ∨ so = 3 ∨ so = 4) with rfl | rfl | rfl | rfl | rfl
  all_goals simp

theorem solo_0 {T so d who now : Int} {nb : Nat} (t1 : 1 ≤ T) (t2 : T ≤ 4) (s0 : 0 ≤ so) (s4 : so ≤ 4) (d0 : 0 ≤ d) (d3 : d ≤ 3) (w0 : 0 ≤ who) (w1 : who < T) (hnb : (nb : Int) = 3 * T) :
    Solo nb T T so d now 0 (tk0 T 1 so d who) (List.replicate (nb + T.toNat) 0) := by
  have ha : 1 ≤ alone T so d := by unfold alone; repeat' split
                                   all_goals omega
  have hok : Tk.Ok (tk0 T 1 so d who) nb T (List.replicate (nb + T.toNat) 0) := ⟨Lay.of4 t1 t2, by show (nb : Int) = 2 * T + T; omega, by simp [tk0], w0, w1, Int.le_refl _, by show (0 : Int) ≤ 1000000; decide, Int.le_refl _, by show (0 : Int) ≤ 16777215; decide, s0, s4, d0, by show d ≤ 100; omega, Int.le_refl _, by show (0 : Int) ≤ 2; decide, fun _ h => by exact absurd h (by show ¬ (1 : Int) ≤ 0; decide)⟩
  exact ⟨hok, rfl, rfl, rfl, by omega, rfl, fun j => by rw [zeros]; exact Int.le_refl _, fun _ => ⟨rfl, fun _ => rfl, fun _ h => absurd rfl h, fun j => zeros _ j⟩, fun h => by omega⟩

end Go.Proofs.Ytoogdfjlodchhaa
