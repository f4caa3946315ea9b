/-
  What the laws on taking have in common: the document's example, layouts, several things held. No condition.
-/
import Derived.Test.YticphioeipbnmaaMore
import Derived.Test.YticphioeipbnmaaTakeStep
import Derived.Test.YticphioeipbnmaaRows2
import Derived.Test.YticphioeipbnmaaWalkMemSizes
namespace Go.Proofs.Yticphioeipbnmaa
open Go.RowKit
set_option linter.unusedVariables false

attribute [local go_sem ↓] fld0

theorem lay11 : Lay 1 1 1 := ⟨rfl, by omega, by omega, by omega, by omega, by omega, by omega, by omega⟩



theorem tavalue_at {w : World} {b : Nat} {k : Ta} (x : Int) (hx : (if k.ph = 1 then k.value else 0) = x) (hT : IsObj w b k.list) : Calls Try.prog 24 #[pt b] w fun r w' => r = .returned (u64 x) ∧ w = w' :=
  hx ▸ tvalue_any w b k.t k.s k.so k.d k.who k.slot k.word k.value k.next k.ph k.lost hT

/-- Steps one behind the other, nobody else does anything. -/
def runTa (j jv hz : Nat) : Nat → Ta → List Int → Ta × List Int
  | 0, k, C => (k, C)
  | i + 1, k, C => let y := runTa j jv hz i k C; (y.1.go j jv y.2, y.1.cells j hz y.2)
theorem runTa_ok {n : Int} {j jv hz : Nat} {k : Ta} {C : List Int} (h : k.Ok n j jv hz C) : ∀ i, (runTa j jv hz i k C).1.Ok n j jv hz (runTa j jv hz i k C).2 ∧ (runTa j jv hz i k C).2.length = C.length
  | 0 => ⟨h, rfl⟩
  | i + 1 => by
    obtain ⟨h1, h2⟩ := runTa_ok h i
    have h3 := Ta.cells_len (runTa j jv hz i k C).1 j hz (runTa j jv hz i k C).2
    exact ⟨h1.next h3, h3.trans h2⟩

section
variable {W w w' : World} {p c b : Nat} {v v' : Value} {L : List Ev} {R : List Thing} {k0 : Ta} {C0 : List Int}
/-- A step alone. -/
theorem TaHold.run {n : Int} {j jv hz i : Nat} (h : TaHold W w p c v (runTa j jv hz i k0 C0).2 L b (runTa j jv hz i k0 C0).1 R) (hk : k0.Ok n j jv hz C0) (hL : L.length < 1000000000) :
    Calls Try.prog 23 #[pt b, pt p] w fun r w' => r = .returned (i64 (runTa j jv hz (i + 1) k0 C0).1.ph) ∧ ∃ v' L', TaHold W w' p c v' (runTa j jv hz (i + 1) k0 C0).2 L' b (runTa j jv hz (i + 1) k0 C0).1 R ∧ L'.length ≤ L.length + 1 :=
  (h.call (runTa_ok hk i).1 hL).mono fun r w' ⟨hr, v', hh⟩ => ⟨hr, v', _, hh, by rw [List.length_append]; have := Ta.ev_le (runTa j jv hz i k0 C0).1 j jv hz (runTa j jv hz i k0 C0).2; omega⟩
end

/-- The document's example: the cells, and two takes of which the one has another word. -/
def hC : List Int := [9, 7, 0, 0]
def hU : Ta := ta0 1 1 0 0 0 0 17
def hT : Ta := ta0 1 1 0 0 0 0 9

end Go.Proofs.Yticphioeipbnmaa
