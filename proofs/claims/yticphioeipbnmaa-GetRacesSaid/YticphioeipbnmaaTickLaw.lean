/-
  Contracts of what package stackyardlaw05 has beside its statements. No condition but that numbers fit their kinds.
-/
import Derived.Test.YticphioeipbnmaaTickStep
import Derived.Test.YticphioeipbnmaaFlat
import Derived.Test.YticphioeipbnmaaBits
namespace Go.Proofs.Yticphioeipbnmaa
open Go.RowKit
set_option linter.unusedVariables false

/-- A layout, right and small. -/
def ConfPost (w : World) (r : Ending) (w' : World) : Prop := ∃ t so d : Int, r = .returned (cf t 1 so d) ∧ 1 ≤ t ∧ t ≤ 4 ∧ 0 ≤ so ∧ so ≤ 4 ∧ 0 ≤ d ∧ d ≤ 3 ∧ Below w.heap.size w w'

set_option maxHeartbeats 1000000 in
theorem conf_at (a0 a2 a3 : Int) (w : World) :
    Calls Try.prog 8 #[.int .i64 a0, .int .i64 0, .int .i64 a2, .int .i64 a3] w fun r w' => r = .returned (cf (1 + a0 % 4) 1 (wrap64 ((IntKind.u64.wrap a2).tmod 5)) (a3 % 4)) ∧ Below w.heap.size w w' := by
  have e0 : bits .and .i64 a0 3 = a0 % 4 := by rw [show (3 : Int) = ((3 : Nat) : Int) from rfl, and_i64 a0 3 2 rfl (by decide)]; rfl
  have e3 : bits .and .i64 a3 3 = a3 % 4 := by rw [show (3 : Int) = ((3 : Nat) : Int) from rfl, and_i64 a3 3 2 rfl (by decide)]; rfl
  have ez : bits .and .i64 0 3 = 0 := by decide
  go_enter Try.func8, Try.ntmps8
  go_wp2
  exact bodyPost_ret (v := cf (1 + a0 % 4) 1 (wrap64 ((IntKind.u64.wrap a2).tmod 5)) (a3 % 4)) (by simp [results, Try.results8, go_sem]) rfl ⟨rfl, below_new (Below.refl _ _) _⟩

theorem src5 (a : Int) : 0 ≤ wrap64 ((IntKind.u64.wrap a).tmod 5) ∧ wrap64 ((IntKind.u64.wrap a).tmod 5) ≤ 4 := by
  have h0 : 0 ≤ IntKind.u64.wrap a := by rw [IntKind.wrap_u64]; omega
  rw [Int.tmod_eq_emod_of_nonneg h0]
  unfold wrap64
  omega
theorem src3 (a : Int) (h0 : 0 ≤ a) (h2 : a ≤ 2) : wrap64 ((IntKind.u64.wrap a).tmod 5) = a := by
  have h1 : IntKind.u64.wrap a = a := by rw [IntKind.wrap_u64]; omega
  rw [h1, Int.tmod_eq_emod_of_nonneg h0]
  unfold wrap64
  omega

theorem conf_any (a0 a2 a3 : Int) (w : World) :
    Calls Try.prog 8 #[.int .i64 a0, .int .i64 0, .int .i64 a2, .int .i64 a3] w (ConfPost w) :=
  (conf_at a0 a2 a3 w).mono fun r w' ⟨h, hb⟩ => ⟨_, _, _, h, by omega, by omega, (src5 a2).1, (src5 a2).2, by omega, by omega, hb⟩

/-- A stamp that is right, or none. -/
def madeV (x y : Int) : Value := if 0 ≤ x ∧ x ≤ y ∧ y < 16777215 then .tuple #[st x y, i64 1] else .tuple #[st 0 0, i64 2]

theorem lay21 : Lay 2 1 2 := ⟨rfl, by omega, by omega, by omega, by omega, by omega, by omega, by omega⟩

theorem Own.stepT {w0 w w' : World} {b p c : Nat} {v v' : Value} {k' : Tk} {C C' : List Int} {L L' : List Ev} (h : Own w0 w p c v C L) (s : Stepped w0.heap.size w w' b p c v v' k' C' L') (hb : w0.heap.size ≤ b) : Own w0 w' p c v' C' L' :=
  ⟨s.mem, s.size, below_keep h.below s.keep h.size (fun i hi => by
    rcases hi with rfl | hi
    · exact hb
    · exact (h.mem.foot i hi).1)⟩

/-- A layout in a block. -/
structure AtC (w : World) (b : Nat) (t s so d : Int) : Prop where
  c0 : w.cell? ⟨b, 0, none⟩ = some (i64 t)
  c1 : w.cell? ⟨b, 1, none⟩ = some (i64 s)
  c2 : w.cell? ⟨b, 2, none⟩ = some (i64 so)
  c3 : w.cell? ⟨b, 3, none⟩ = some (i64 d)

theorem AtC.keep {w w' : World} {b : Nat} {t s so d : Int} {T : Nat → Prop} (h : AtC w b t s so d) (k : Keep T w w') (hn : ¬ T b) : AtC w' b t s so d :=
  ⟨k.cell h.c0 hn, k.cell h.c1 hn, k.cell h.c2 hn, k.cell h.c3 hn⟩
theorem AtC.later {w w' : World} {b n : Nat} {t s so d : Int} (h : AtC w b t s so d) (k : Below n w w') (hn : b < n) : AtC w' b t s so d :=
  ⟨(k.cell (p := ⟨b, 0, none⟩) hn).trans h.c0, (k.cell (p := ⟨b, 1, none⟩) hn).trans h.c1, (k.cell (p := ⟨b, 2, none⟩) hn).trans h.c2, (k.cell (p := ⟨b, 3, none⟩) hn).trans h.c3⟩
theorem AtC.made (w : World) (t s so d : Int) : AtC (w.alloc (.cells #[.int .i64 t, .int .i64 s, .int .i64 so, .int .i64 d] 27)) w.heap.size t s so d :=
  ⟨World.cell?_alloc_new w _ _ 0, World.cell?_alloc_new w _ _ 1, World.cell?_alloc_new w _ _ 2, World.cell?_alloc_new w _ _ 3⟩

theorem stp_count (nb : Nat) (k : Tk) (C : List Int) (now x : Int) (hp : k.ph = 0) (hso : k.so = 0) (hx : C.getD nb 0 = x) (h0 : 0 ≤ x) (h1 : x < 16777215) :
    stp nb k C now = ({ k with steps := k.steps + 1, ph := 1, lo := x, hi := x }, C.set nb (x + 1), some ⟨k.who, 3, nb, x, x + 1, true⟩) := by
  have hl : low x = x := by unfold low; omega
  have ha : add64 x 1 = x + 1 := by unfold add64; rw [IntKind.wrap_u64]; omega
  unfold stp
  rw [if_pos hp, if_pos hso, hx, hl, ha, fin_yes _ ⟨h0, Int.le_refl _, h1⟩]

/-- What a call itself begun: it shares no block with cells that it made ahead. -/
theorem Own.apart {w0 w : World} {p c : Nat} {v : Value} {C : List Int} {L : List Ev} (h : Own w0 w p c v C L) {b : Nat} (hb : w.heap.size ≤ b) : ¬ Foot p c v b :=
  fun hf => by have := (h.mem.foot b hf).2; omega

theorem getD_set' (C : List Int) (i j : Nat) (x : Int) : (C.set i x).getD j 0 = if i = j ∧ j < C.length then x else C.getD j 0 := by
  rw [List.getD_eq_getElem?_getD, List.getElem?_set, List.getD_eq_getElem?_getD]
  by_cases h : i = j
  · subst h
    by_cases h2 : i < C.length
    · simp [h2]
    · simp [h2]
  · simp [h]

end Go.Proofs.Yticphioeipbnmaa
