/-
  The example at the head of every law on pick answers true. No condition.
-/
import Derived.Test.YthncappmjdgmnaaPickLaw
namespace Go.Proofs.Ythncappmjdgmnaa
open Go.RowKit
set_option linter.unusedVariables false

def ws3 : List Int := [liveW 1 1, liveW 0 2, liveW 1 3]
theorem order3 : IsOrder ws3 [1, 0, 2] := by
  refine ⟨by decide, fun i => ?_⟩
  have h : ∀ i, i < 3 → live ws3 i := by decide
  constructor
  · intro hi
    have : i < 3 := by simp at hi; omega
    exact ⟨this, h i this⟩
  · rintro ⟨hi, _⟩
    have : i < 3 := hi
    simp
    omega

theorem ws_nil (w : World) : IsWs w none [] := ⟨fun h => absurd h (by decide), fun i => by simp⟩
theorem end_nil {e z : Int} (h : IsEnd [] e z) : z = -1 := by
  rcases h with ⟨h, _⟩ | ⟨i, _, h, _⟩
  · exact h
  · cases h

set_option maxRecDepth 100000 in
set_option maxHeartbeats 4000000 in
theorem head8_any (w : World) : Calls Try.prog 13 #[] w fun r w' => r = .returned (.bool true) ∧ Below w.heap.size w w' := by
  have hl1 := fun W => lawlive_any 1 1 W (by decide) (by decide) (by decide) (by decide)
  have hl2 := fun W => lawlive_any 0 2 W (by decide) (by decide) (by decide) (by decide)
  have hl3 := fun W => lawlive_any 1 3 W (by decide) (by decide) (by decide) (by decide)
  have H1 := Lib.hid hl1
  have H2 := Lib.hid hl2
  have H3 := Lib.hid hl3
  clear hl1 hl2 hl3
  obtain ⟨x, hx⟩ : ∃ x, x = liveW 1 1 := ⟨_, rfl⟩
  obtain ⟨y, hy⟩ : ∃ x, x = liveW 0 2 := ⟨_, rfl⟩
  obtain ⟨z, hz⟩ : ∃ x, x = liveW 1 3 := ⟨_, rfl⟩
  rw [← hx] at H1
  rw [← hy] at H2
  rw [← hz] at H3
  have HX := Lib.hid hx
  have HY := Lib.hid hy
  have HZ := Lib.hid hz
  clear hx hy hz
  go_enter Try.func13, Try.ntmps13
  go_wp2_with fail
  refine (H1.out _).mono ?_
  rintro r w1 ⟨rfl, hb1⟩
  go_wp2_with fail
  refine (H2.out _).mono ?_
  rintro r w2 ⟨rfl, hb2⟩
  go_wp2_with fail
  refine (H3.out _).mono ?_
  rintro r w3 ⟨rfl, hb3⟩
  have HB3 := Lib.hid (below_step (below_step hb1 hb2) hb3)
  clear hb1 hb2 hb3
  have HW : Hid (IsWs (w3.alloc (.cells #[u64 x, u64 y, u64 z] 29)) (some ⟨w3.heap.size, 0, none⟩) ws3) :=
    ⟨fun _ => ⟨w3.heap.size, 0, rfl, fun i hi => by
      have hi3 : i < 3 := hi
      rw [Nat.zero_add, World.cell?_alloc_new]
      rcases (by omega : i = 0 ∨ i = 1 ∨ i = 2) with rfl | rfl | rfl
      · rw [HX.out]; rfl
      · rw [HY.out]; rfl
      · rw [HZ.out]; rfl⟩, fun i => by
      rcases (by omega : i = 0 ∨ i = 1 ∨ i = 2 ∨ 3 ≤ i) with rfl | rfl | rfl | h
      · decide
      · decide
      · decide
      · rw [List.getD_eq_getElem?_getD, List.getElem?_eq_none (by exact h)]
        decide⟩
  have HB4 := Lib.hid (below_new HB3.out (.cells #[u64 x, u64 y, u64 z] 29))
  clear H1 H2 H3 HX HY HZ HB3
  go_wp2_with fail
  refine (order_any _ (some ⟨_, 0, none⟩) 3 ws3 HW.out (by decide)).mono ?_
  rintro r w5 ⟨v, S, rfl, ho, hi, hb5⟩
  obtain rfl := ho.one order3
  obtain ⟨a, cap, rfl, hcap, hc⟩ := hi.has
  obtain ⟨b, off, rfl, hd⟩ := hc (by decide)
  have c0 := hd 0 (by decide)
  have c1 := hd 1 (by decide)
  have c2 := hd 2 (by decide)
  replace c0 : w5.cell? ⟨b, off, none⟩ = some (i64 1) := c0
  replace c1 : w5.cell? ⟨b, off + 1, none⟩ = some (i64 0) := c1
  replace c2 : w5.cell? ⟨b, off + 2, none⟩ = some (i64 2) := c2
  have HB5 := Lib.hid (below_step HB4.out hb5)
  clear hc hd hb5 ho hi HB4 HW
  change 3 ≤ cap at hcap
  show _
  simp only [List.length_cons, List.length_nil, Nat.zero_add]
  go_wp2_with fail
  refine (at_any _ none 0 [] 0 (.inl rfl) (ws_nil _) (by decide)).mono ?_
  rintro r w6 ⟨q, rfl, he, hb6⟩
  obtain rfl := end_nil he
  go_wp2_with fail
  go_ret
  exact ⟨rfl, below_step HB5.out hb6⟩

end Go.Proofs.Ythncappmjdgmnaa
