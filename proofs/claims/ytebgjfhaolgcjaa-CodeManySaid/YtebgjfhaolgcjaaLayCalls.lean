/-
  Contracts of the functions of package lay: what each call answers, and that it leaves all memory that was there as it was. No condition but that the layout is a right one, where a number is reckoned of it.
-/
import Derived.Test.YtebgjfhaolgcjaaProg
import Derived.Test.YtebgjfhaolgcjaaBase
import Derived.Test.YtebgjfhaolgcjaaRegion
import Derived.IntWalk
namespace Go.Proofs.Ytebgjfhaolgcjaa
open Go.RowKit
set_option linter.unusedVariables false

abbrev cf (t s so d : Int) : Value := .agg #[.int .i64 t, .int .i64 s, .int .i64 so, .int .i64 d]

def rightC (t s so d : Int) : Bool := decide (1 ≤ t ∧ t ≤ 64 ∧ 1 ≤ s ∧ s ≤ 64 ∧ 0 ≤ so ∧ so ≤ 4 ∧ 0 ≤ d ∧ d ≤ 100)

/-- A layout's number of places, between its bounds. -/
structure Lay (t s n : Int) : Prop where
  eq : t * s = n
  t1 : 1 ≤ t
  t2 : t ≤ 64
  s1 : 1 ≤ s
  s2 : s ≤ 64
  n1 : t ≤ n
  n2 : n ≤ 4096
  n3 : s ≤ n

theorem Lay.mk' {t s : Int} (t1 : 1 ≤ t) (t2 : t ≤ 64) (s1 : 1 ≤ s) (s2 : s ≤ 64) : Lay t s (t * s) :=
  ⟨rfl, t1, t2, s1, s2, by have := Int.mul_le_mul_of_nonneg_left s1 (by omega : 0 ≤ t); omega, by have := Int.mul_le_mul t2 s2 (by omega) (by omega); omega, by have := Int.mul_le_mul_of_nonneg_right t1 (by omega : 0 ≤ s); omega⟩

theorem Lay.wrap {t s n : Int} (h : Lay t s n) : wrap64 (t * s) = n := by
  rw [h.eq]
  have := h.n1; have := h.n2; have := h.t1
  unfold wrap64
  omega

set_option maxHeartbeats 1000000 in
theorem cright_any (t s so d : Int) (w : World) :
    Calls Try.prog 8 #[cf t s so d] w fun r w' => r = .returned (.bool (rightC t s so d)) ∧ Below w.heap.size w w' := by
  go_enter Try.func8, Try.ntmps8
  go_wp2
  all_goals
    go_ret
    refine ⟨?_, below_new (Below.refl _ _) _⟩
    first
      | (rw [show rightC t s so d = false from decide_eq_false (by omega)]; rfl)
      | (rw [show rightC t s so d = decide (d ≤ 100) from decide_eq_decide.2 (by omega)]; rfl)

theorem ret_bool {a : Bool} (h : a = true) : Ending.returned (.bool a) = .returned (.bool true) := by rw [h]
theorem ret_i64 {a b : Int} (h : a = b) : Ending.returned (.int .i64 a) = .returned (.int .i64 b) := by rw [h]

/-- What a cell is for: its kind k, and of which place or thread (x). -/
def KindC (t n c k x : Int) : Prop :=
  ((c < 0 ∨ 2 * n + 2 * t ≤ c) ∧ k = 0 ∧ x = 0) ∨ (0 ≤ c ∧ c < n ∧ k = 1 ∧ x = c) ∨ (n ≤ c ∧ c < 2 * n ∧ k = 2 ∧ x = c - n) ∨ (2 * n ≤ c ∧ c < 2 * n + t ∧ k = 3 ∧ x = c - 2 * n) ∨ (2 * n + t ≤ c ∧ c < 2 * n + 2 * t ∧ k = 4 ∧ x = c - (2 * n + t))

theorem lay23 : Lay 2 3 6 := ⟨rfl, by omega, by omega, by omega, by omega, by omega, by omega, by omega⟩

end Go.Proofs.Ytebgjfhaolgcjaa
