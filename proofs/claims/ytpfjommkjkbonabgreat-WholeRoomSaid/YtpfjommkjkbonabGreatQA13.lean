/- Contracts and plain lemmas that these laws need. No condition. -/

import Derived.Test.YtpfjommkjkbonabGreatQA1
import Derived.Test.YtpfjommkjkbonabGreatQA10
import Derived.Test.YtpfjommkjkbonabGreatQA12
namespace Go.Proofs.YtpfjommkjkbonabGreat
set_option linter.unusedVariables false
section
open Go.RowKit
section
variable {B B' : YB} {N n m : Nat} {Y Y' : Nat → Yd} {S : List CM} {A A' : List Int} {fl : Bool} {f : Int → Int}
theorem tick_le {Z : Yd} : Z.tick ≤ Z.now + 1 := by
 unfold Yd.tick
 have e : yMax = 1099511627776 := rfl
 split <;> omega
theorem pass_le {Z : Yd} {k : Int} (hk : 0 < k) : (Z.pass k).now ≤ Z.now + k := by
 show (if k > yMax - Z.now then yMax else Z.now + k) ≤ _
 split <;> omega
theorem PTr.now (h : PTr B N S Y A) (hn : ∀ m ∈ S, m.k = 2 → m.n ≤ 32768) : ∀ i, i ≤ S.length → (Y i).now ≤ 32768 * i
 | 0, _ => by
  rw [h.tr.zero]
  show (0 : Int) ≤ _
  omega
 | i + 1, hi => by
  have ih := PTr.now h hn i (by omega)
  obtain ⟨m, hm⟩ : ∃ m, S[i]? = some m := ⟨_, List.getElem?_eq_getElem (by omega)⟩
  obtain ⟨a, ha⟩ : ∃ a, A[i]? = some a := ⟨_, List.getElem?_eq_getElem (by rw [h.len]; omega)⟩
  have hd := h.at' i m a hm ha
  have hmn := hn m (List.mem_of_getElem? hm)
  generalize Y (i + 1) = Z at hd ⊢
  cases hd with
  | out => omega
  | busy => omega
  | call k take h hw hk he hq => show (Y i).now ≤ _; omega
  | none => omega
  | step k T q z => show (Y i).tick ≤ _; have := tick_le (Z := Y i); omega
  | pass k0 hk => have := pass_le (Z := Y i) hk; have := hmn k0; omega
  | still => omega
  | other => omega
end
end
section
open Go.RowKit
theorem PTr.room {B : YB} {N s : Nat} {S : List CM} {Y : Nat → Yd} {A : List Int} (h : PTr B N S Y A) (hs : B.s = s) (hn : ∀ m ∈ S, m.k = 2 → m.n ≤ 32768) (hl : S.length ≤ 300) : ∀ i, i ≤ S.length → RmOk s N (Y i)
 | 0, _ => by
  rw [h.tr.zero]
  exact RmOk.start _ (fun j => by
   rw [List.getD_eq_getElem?_getD, List.getElem?_replicate]
   split <;> rfl) _
 | i + 1, hi => by
  have ih := PTr.room h hs hn hl i (by omega)
  have ha := h.tr.all i (by omega)
  have ha' := h.tr.all (i + 1) hi
  have hnow := h.now hn i (by omega)
  exact ih.next (h.tr.gens hs i (by omega)) hs ha.aok ha'.aok ha.cok ha.sok ha.ok h.tr.cf h.tr.hT ha.len (h.tr.fit i (by omega)) (h.tr.fit (i + 1) hi) (by omega) (by omega) (h.tr.how i (by omega)) (h.tr.mv i (by omega))
end
end Go.Proofs.YtpfjommkjkbonabGreat
