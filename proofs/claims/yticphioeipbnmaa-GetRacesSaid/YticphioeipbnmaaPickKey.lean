/-
  Plain lemmas: the comparison of two places says how their numbers stand. No Go. No condition but that the words are numbers of 64 bits.
-/
import Derived.Test.YticphioeipbnmaaPickRight
import Derived.Shelf.SlSortCmp.Whole1
namespace Go.Proofs.Yticphioeipbnmaa
open Go.RowKit
set_option linter.unusedVariables false

/-- Where the place i, that says x of itself, stands. -/
def xkey (x : Int) (i : Nat) : Int := pkey (x / 4 % 2) (x / 65536 % 16777216) (x / 1099511627776) i

theorem cmpS_neg (a b c d : Int) : cmpS c d a b = -cmpS a b c d := by
  rcases cmpS_cases a b c d with ⟨h, h2⟩ | ⟨h, rfl, rfl⟩ | ⟨h, h2⟩
  · rcases cmpS_cases c d a b with ⟨k, k2⟩ | ⟨k, k2⟩ | ⟨k, k2⟩ <;> omega
  · rw [h]
    rfl
  · rcases cmpS_cases c d a b with ⟨k, k2⟩ | ⟨k, k2⟩ | ⟨k, k2⟩ <;> omega
theorem later_pos (c : Int) (i j : Nat) : 0 < orI c (cmpI i j) ↔ (0 < c ∨ (c = 0 ∧ j < i)) := by
  unfold orI cmpI
  repeat' split
  all_goals omega
theorem later_neg (c : Int) (i j : Nat) : orI c (cmpI i j) < 0 ↔ (0 < -c ∨ (-c = 0 ∧ i < j)) := by
  unfold orI cmpI
  repeat' split
  all_goals omega

section
variable {x y : Int} {i j : Nat}
theorem laterI_pos (x0 : 0 ≤ x) (x1 : x ≤ 18446744073709551615) (y0 : 0 ≤ y) (y1 : y ≤ 18446744073709551615) (i1 : i < 1048576) (j1 : j < 1048576) :
    0 < laterI x y i j ↔ lkey (y / 65536 % 16777216) (y / 1099511627776) j < lkey (x / 65536 % 16777216) (x / 1099511627776) i := by
  unfold laterI
  rw [later_pos, later_key (by omega) (by omega) (by omega) (by omega) i1 j1]
theorem laterI_neg (x0 : 0 ≤ x) (x1 : x ≤ 18446744073709551615) (y0 : 0 ≤ y) (y1 : y ≤ 18446744073709551615) (i1 : i < 1048576) (j1 : j < 1048576) :
    laterI x y i j < 0 ↔ lkey (x / 65536 % 16777216) (x / 1099511627776) i < lkey (y / 65536 % 16777216) (y / 1099511627776) j := by
  unfold laterI
  rw [later_neg, ← cmpS_neg, later_key (by omega) (by omega) (by omega) (by omega) j1 i1]

theorem right_key (x0 : 0 ≤ x) (x1 : x ≤ 18446744073709551615) (y0 : 0 ≤ y) (y1 : y ≤ 18446744073709551615) (i1 : i < 1048576) (j1 : j < 1048576) :
    (rightI x y i j < 0 ↔ xkey x i < xkey y j) ∧ (0 < rightI x y i j ↔ xkey y j < xkey x i) := by
  have p := laterI_pos x0 x1 y0 y1 i1 j1
  have q := laterI_neg x0 x1 y0 y1 i1 j1
  have n1 : 0 ≤ lkey (x / 65536 % 16777216) (x / 1099511627776) i := lkey_nn (by omega) (by omega)
  have n2 : 0 ≤ lkey (y / 65536 % 16777216) (y / 1099511627776) j := lkey_nn (by omega) (by omega)
  unfold rightI xkey pkey
  generalize laterI x y i j = L at p q ⊢
  generalize lkey (x / 65536 % 16777216) (x / 1099511627776) i = u at p q n1 ⊢
  generalize lkey (y / 65536 % 16777216) (y / 1099511627776) j = v at p q n2 ⊢
  have e0 : x / 4 % 2 = 0 ∨ x / 4 % 2 = 1 := by omega
  have f0 : y / 4 % 2 = 0 ∨ y / 4 % 2 = 1 := by omega
  generalize x / 4 % 2 = e at e0 ⊢
  generalize y / 4 % 2 = f at f0 ⊢
  clear x0 x1 y0 y1 i1 j1
  rcases e0 with rfl | rfl <;> rcases f0 with rfl | rfl
  · simp only [cmpI, orI, Int.lt_irrefl, if_false, if_true]
    omega
  · simp [cmpI, orI]
    omega
  · simp [cmpI, orI]
    omega
  · simp only [cmpI, orI, Int.lt_irrefl, if_false, if_true, show ¬ ((1 : Int) = 0) by decide]
    omega
theorem xkey_inj (x0 : 0 ≤ x) (x1 : x ≤ 18446744073709551615) (y0 : 0 ≤ y) (y1 : y ≤ 18446744073709551615) (i1 : i < 1048576) (j1 : j < 1048576) (h : xkey x i = xkey y j) : i = j ∧ x / 4 % 2 = y / 4 % 2 ∧ x / 65536 % 16777216 = y / 65536 % 16777216 ∧ x / 1099511627776 = y / 1099511627776 :=
  pkey_inj (by omega) (by omega) (by omega) (by omega) (by omega) (by omega) (by omega) (by omega) i1 j1 h
end

/-- Of all words together. -/
def wkey (ws : List Int) (i : Nat) : Int := xkey (ws.getD i 0) i
/-- The comparison, as it is of all numbers. -/
def cfI (ws : List Int) (n i j : Nat) : Int := rightI (ws.getD (i % n) 0) (ws.getD (j % n) 0) (i % n) (j % n)
theorem cfI_key {ws : List Int} {n : Nat} (hf : ∀ i, 0 ≤ ws.getD i 0 ∧ ws.getD i 0 ≤ 18446744073709551615) (hn : n ≤ 1000000) (h0 : 0 < n) (i j : Nat) :
    (cfI ws n i j < 0 ↔ wkey ws (i % n) < wkey ws (j % n)) ∧ (0 < cfI ws n i j ↔ wkey ws (j % n) < wkey ws (i % n)) :=
  right_key (hf _).1 (hf _).2 (hf _).1 (hf _).2 (by have := Nat.mod_lt i h0; omega) (by have := Nat.mod_lt j h0; omega)
theorem ltI {ws : List Int} {n : Nat} (hf : ∀ i, 0 ≤ ws.getD i 0 ∧ ws.getD i 0 ≤ 18446744073709551615) (hn : n ≤ 1000000) (h0 : 0 < n) (i j : Nat) : ltOf (cfI ws n) i j = decide (wkey ws (i % n) < wkey ws (j % n)) := by
  unfold ltOf
  exact decide_eq_decide.2 (cfI_key hf hn h0 i j).1
theorem swoI {ws : List Int} {n : Nat} (hf : ∀ i, 0 ≤ ws.getD i 0 ∧ ws.getD i 0 ≤ 18446744073709551615) (hn : n ≤ 1000000) (h0 : 0 < n) : Go.Sort.SWO (ltOf (cfI ws n)) where
  irrefl x := by rw [ltI hf hn h0]; simp
  trans x y z h1 h2 := by rw [ltI hf hn h0] at *; simp at *; omega
  ntrans x y z h1 h2 := by rw [ltI hf hn h0] at *; simp at *; omega
theorem wkey_inj {ws : List Int} (hf : ∀ i, 0 ≤ ws.getD i 0 ∧ ws.getD i 0 ≤ 18446744073709551615) {i j : Nat} (hi : i < 1000000) (hj : j < 1000000) (h : wkey ws i = wkey ws j) : i = j :=
  (xkey_inj (hf _).1 (hf _).2 (hf _).1 (hf _).2 (by omega) (by omega) h).1

end Go.Proofs.Yticphioeipbnmaa
