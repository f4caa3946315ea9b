/-
  What came of the events so far, as package audit keeps it: a struct, a map of cells, a map of what was loaded. No condition.
-/
import Derived.DeepKeys5
import Derived.Test.YtpbpkmmhdfahnaaGreatChecked
import Derived.Test.YtpbpkmmhdfahnaaGreatKMap
import Derived.Test.YtpbpkmmhdfahnaaGreatAKit
import Derived.Test.YtpbpkmmhdfahnaaGreatAMem
import Derived.Test.YtpbpkmmhdfahnaaGreatAuditMay
namespace Go.Proofs.YtpbpkmmhdfahnaaGreat
open Go.RowKit Go.Maps
set_option linter.unusedVariables false

/-- A key of the second map. -/
abbrev lookV (k : Int × Int) : Value := .agg #[.int .i64 k.1, .int .i64 k.2]
theorem cells_ty : KTy Tryz.prog 70 3 38 .u64 (fun k : Int => .int .i64 k) (fun k => (Lit.int .i64 k).wf = true) :=
  ⟨Tryz.underlying70, int_keyed Tryz.underlying3, fun h => by cases h; rfl, fun h => ⟨_, keyOf_int_mk Tryz.underlying3 h⟩, Tryz.underlying38, Tryz.zeroValue38⟩
theorem look_law : WideMaps.KeyLaw Tryz.prog 101 :=
  deep_law_gate (by kernel_rfl) (of_decide_eq_true (by kernel_rfl)) (of_decide_eq_true (by kernel_rfl)) (by kernel_rfl) (by kernel_rfl)
theorem look_key {a b : Int} (ha : (Lit.int .i64 a).wf = true) (hb : (Lit.int .i64 b).wf = true) : ∃ kl, keyOf Tryz.prog 101 (lookV (a, b)) = some kl := by
  obtain ⟨d, hd⟩ : ∃ d, Tryz.prog.types.size = d + 1 := ⟨Tryz.prog.types.size - 1, by kernel_rfl⟩
  have h1 : Tryz.prog.keyType 101 = true := by kernel_rfl
  have c1 : Tryz.prog.cellsOf 101 = 2 := by kernel_rfl
  have c2 : Tryz.prog.cellsOf 3 = 1 := by kernel_rfl
  have h2 : (lookV (a, b)).formed Tryz.prog 101 = true := by simp [Value.formed, Tryz.underlying101, c1]
  have h3 : Tryz.prog.keyLits (Tryz.prog.types.size + 1) 101 [.int .i64 a, .int .i64 b] = some [.int .i64 a, .int .i64 b] := by
    rw [hd]
    simp [Program.keyLits, Tryz.underlying101, Tryz.underlying3, c1, c2, ha, hb]
  have h4 : (lookV (a, b)).cells.toList = [.int .i64 a, .int .i64 b] := by simp [Value.cells]
  refine ⟨.string (keyBytes [.int .i64 a, .int .i64 b]), ?_⟩
  unfold keyOf
  simp only [Tryz.underlying101, h1, h2, h4, h3, Bool.and_self, if_true, Option.map_some]
/-- The keys of the second map that are looked up: a thread, and one of the places. -/
def lookOk (N : Nat) (k : Int × Int) : Prop := (Lit.int .i64 k.1).wf = true ∧ 0 ≤ k.2 ∧ k.2 < N ∧ (N : Int) ≤ 4096
theorem wf_small {a : Int} (h0 : 0 ≤ a) (h1 : a ≤ 4096) : (Lit.int .i64 a).wf = true := WalkArith.wf_i64 (by omega)
theorem gens_ty (N : Nat) : KTy Tryz.prog 71 101 3 .i64 lookV (lookOk N) :=
  ⟨Tryz.underlying71, Keyed.of_law look_law, fun {a b} h => by
    obtain ⟨a1, a2⟩ := a
    obtain ⟨b1, b2⟩ := b
    cases h
    rfl, fun {k} h => look_key h.1 (wf_small h.2.1 (by have := h.2.2.1; have := h.2.2.2; omega)), Tryz.underlying3, Tryz.zeroValue3⟩

/-- Which use of a place was seen: of a number that was loaded. -/
def genO : Option Int → Int
  | some r => r / 8 % 8192
  | none => 0
abbrev CMap (w : World) (b n : Nat) (f : Int → Int) : Prop := ∃ M, KMap Tryz.prog 3 38 .u64 (fun k : Int => .int .i64 k) (fun k => (Lit.int .i64 k).wf = true) w b n f M
abbrev GMap (N : Nat) (w : World) (b n : Nat) (g : Int → Int → Option Int) : Prop := KMap Tryz.prog 101 3 .i64 lookV (lookOk N) w b n (fun k => genO (g k.1 k.2)) (fun k => (g k.1 k.2).isSome)
abbrev watchL (t s so d : Int) (bc bg : Nat) : List Value := [i64 t, i64 s, i64 so, i64 d, .map (some bc), .map (some bg)]
/-- A watch in block wb: behind events of which the cells are f; g tells what was loaded last. -/
structure WAt (w : World) (wb bc bg : Nat) (t s so d : Int) (N n : Nat) (f : Int → Int) (g : Int → Int → Option Int) : Prop where
  lay : Lay t s N
  obj : IsObj w wb (watchL t s so d bc bg)
  cells : CMap w bc n f
  gens : GMap N w bg n g
  fit : ∀ c, 0 ≤ f c ∧ f c ≤ 18446744073709551615
  n1 : n ≤ 100000
  wc : wb ≠ bc
  wg : wb ≠ bg
  cg : bc ≠ bg
section
variable {w w' : World} {wb bc bg : Nat} {t s so d : Int} {N n : Nat} {f : Int → Int} {g : Int → Int → Option Int}
theorem WAt.later (h : WAt w wb bc bg t s so d N n f g) (e : Below w.heap.size w w') : WAt w' wb bc bg t s so d N n f g :=
  ⟨h.lay, h.obj.later e, by obtain ⟨M, hm⟩ := h.cells; exact ⟨M, hm.later e⟩, h.gens.later e, h.fit, h.n1, h.wc, h.wg, h.cg⟩
end
end Go.Proofs.YtpbpkmmhdfahnaaGreat
