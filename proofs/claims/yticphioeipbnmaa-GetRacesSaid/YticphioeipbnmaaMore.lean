/-
  Plain lemmas that several layers' laws have in common: a layout of four by four at most, several things held, masks, a word's first part. No condition.
-/
import Derived.Test.YticphioeipbnmaaHold
import Derived.Test.YticphioeipbnmaaLayCalls
import Derived.Test.YticphioeipbnmaaBits
import Derived.Test.YticphioeipbnmaaFrame
import Derived.Test.YticphioeipbnmaaWordCalls
namespace Go.Proofs.Yticphioeipbnmaa
open Go.RowKit
set_option linter.unusedVariables false

theorem lay44 {t s : Int} (t1 : 1 ≤ t) (t2 : t ≤ 4) (s1 : 1 ≤ s) (s2 : s ≤ 4) : ∃ N : Nat, t * s = (N : Int) ∧ Lay t s N ∧ 1 ≤ N ∧ N ≤ 16 := by
  have h := Lay.mk' t1 (by omega : t ≤ 64) s1 (by omega : s ≤ 64)
  have h2 := Int.mul_le_mul t2 s2 (by omega) (by omega)
  have hn := h.n1
  refine ⟨(t * s).toNat, by omega, ?_, by omega, by omega⟩
  rw [Int.toNat_of_nonneg (by omega)]
  exact h

theorem Hold.sel {W w : World} {l l' : List Thing} (h : Hold W w l) (f : Nat → Nat) (hf : ∀ (i : Nat) (A : Thing), l'[i]? = some A → l[f i]? = some A) (hi : ∀ i j, i < l'.length → j < l'.length → f i = f j → i = j) : Hold W w l' :=
  ⟨h.size, h.below, fun i A hA => h.ok _ A (hf i A hA), fun i A hA => h.has _ A (hf i A hA), fun i j A B hA hB hne => h.apart _ _ A B (hf i A hA) (hf j B hB) (fun e => hne (hi i j (List.getElem?_eq_some_iff.1 hA).1 (List.getElem?_eq_some_iff.1 hB).1 e))⟩

theorem Hold.swap {W w : World} {a b c : Thing} (h : Hold W w [a, b, c]) : Hold W w [a, c, b] :=
  h.sel (fun i => if i = 1 then 2 else if i = 2 then 1 else i) (fun i A hA => by
    rcases i with _ | _ | _ | i
    · exact hA
    · exact hA
    · exact hA
    · simp at hA) (fun i j hi hj e => by
    simp only [List.length_cons, List.length_nil] at hi hj
    rcases (by omega : i = 0 ∨ i = 1 ∨ i = 2) with rfl | rfl | rfl <;> rcases (by omega : j = 0 ∨ j = 1 ∨ j = 2) with rfl | rfl | rfl <;> simp at e ⊢)

theorem Hold.cells {W w w' : World} {p c n : Nat} (hB : Below W.heap.size W w) (hM : IsMem W.heap.size w' p c (.slice none 0 0) (List.replicate n 0) []) (e : Below w.heap.size w w') (hp : w.heap.size ≤ p) (hc : w.heap.size ≤ c) :
    Hold W w' [tMem W.heap.size p c (.slice none 0 0) (List.replicate n 0) []] :=
  (Hold.nil hB).more e (tMem_ok _ _ _ _ _ _) hM (fun q hq => by
    rcases hq with rfl | rfl | hq
    · exact hp
    · exact hc
    · cases hq)

theorem and_ffff (a : Int) : bits .and .i64 a 65535 = a % 65536 := by rw [show (65535 : Int) = ((65535 : Nat) : Int) from rfl, and_i64 a 65535 16 rfl (by decide)]; rfl

theorem elem_i64 : ElemAt Try.prog 58 3 (.int .i64 0) 1 8 := ElemAt.mk' Try.underlying58 (by kernel_rfl) rfl (by decide)

theorem fld0 (s e g lo hi : Int) (w : World) : (Instr.field 52 (wd s e g lo hi) 0).run Try.prog w = .ok (i64 s) w := by
  simp [Instr.field, go_sem, asAgg]

end Go.Proofs.Yticphioeipbnmaa
