/-
  The library's words for signs (its decoder, its test of a whole text, a sign written out) in ours. No Go. No condition.
-/
import Derived.Test.YtkdfgdhfjaapiaaDoorSignText
import Derived.Lib.ValidU
import Derived.Lib.RuneBytes
namespace Go.Proofs.YtkdfgdhfjaapiaaDoor
set_option linter.unusedVariables false

theorem decodeL_dec (l : Bs) : Lib.decodeL l = dec l := by
  unfold Lib.decodeL
  rw [decode_dec]
  simp
theorem validGo_sg : ∀ (n : Nat) (l : Bs), l.length ≤ n → Lib.validGoD n l = (sg l).isSome
  | 0, l, h => by
    have : l = [] := List.eq_nil_of_length_eq_zero (by omega)
    subst this; rfl
  | n + 1, l, h => by
    unfold Lib.validGoD
    rw [decodeL_dec]
    by_cases h0 : l = []
    · subst h0; rfl
    · rw [if_neg h0]
      by_cases hb : Beg l
      · have h1 := (dec_le l).1
        rw [if_neg (by rintro ⟨e1, e2⟩; rcases hb with hb | hb; exact hb e1; omega), sg_step h0 hb, validGo_sg n _ (by rw [List.length_drop]; omega), Option.isSome_map]
      · have e := dec_not hb
        rw [if_pos (by rw [e]; exact ⟨rfl, rfl⟩), sg_stop h0 hb]; rfl
theorem valid_sg (l : Bs) : Lib.validD l = (sg l).isSome := validGo_sg _ l (Nat.le_refl _)

theorem z_of (a : UInt8) (z : Int) (h : z = (a.toNat : Int)) : z.toNat.toUInt8 = a := by subst h; simp
/-- A sign's number written out is the sign. -/
theorem IsS.run {x : Bs} (h : IsS x) : Lib.encodeRune ((dec x).1 : Int) = x := by
  unfold Lib.encodeRune
  rcases h.kind with ⟨a, e, i1, i2⟩ | ⟨a, b, e, i1, i2, i3, i4, i5⟩ | ⟨a, b, c, e, i1, i2, i3, i4, i5, i6, i7⟩ | ⟨a, b, c, d, e, i1, i2, i3, i4, i5, i6, i7⟩
  · have hA : ((dec x).1 : Int) = (a.toNat : Int) := by omega
    rw [Lib.encodeRuneZ_one (by omega) (by omega)]
    simp only [List.map_cons, List.map_nil]
    rw [z_of a _ hA, e]
  · have hA : 192 + ((dec x).1 : Int) / 64 = (a.toNat : Int) := by omega
    have hB : 128 + ((dec x).1 : Int) % 64 = (b.toNat : Int) := by omega
    rw [Lib.encodeRuneZ_two (by omega) (by omega)]
    simp only [List.map_cons, List.map_nil]
    rw [z_of a _ hA, z_of b _ hB, e]
  · have hA : 224 + ((dec x).1 : Int) / 4096 = (a.toNat : Int) := by omega
    have hB : 128 + ((dec x).1 : Int) / 64 % 64 = (b.toNat : Int) := by omega
    have hC : 128 + ((dec x).1 : Int) % 64 = (c.toNat : Int) := by omega
    rw [Lib.encodeRuneZ_three (by omega)]
    simp only [List.map_cons, List.map_nil]
    rw [z_of a _ hA, z_of b _ hB, z_of c _ hC, e]
  · have := a.toNat_lt
    have hA : 240 + ((dec x).1 : Int) / 262144 = (a.toNat : Int) := by omega
    have hB : 128 + ((dec x).1 : Int) / 4096 % 64 = (b.toNat : Int) := by omega
    have hC : 128 + ((dec x).1 : Int) / 64 % 64 = (c.toNat : Int) := by omega
    have hD : 128 + ((dec x).1 : Int) % 64 = (d.toNat : Int) := by omega
    rw [Lib.encodeRuneZ_four (by omega) (by omega)]
    simp only [List.map_cons, List.map_nil]
    rw [z_of a _ hA, z_of b _ hB, z_of c _ hC, z_of d _ hD, e]
theorem IsS.cells {x : Bs} (h : IsS x) : Lib.runeCells ((dec x).1 : Int) = Lib.byteCells x := by
  rw [← Lib.byteCells_encodeRune, h.run]
end Go.Proofs.YtkdfgdhfjaapiaaDoor
