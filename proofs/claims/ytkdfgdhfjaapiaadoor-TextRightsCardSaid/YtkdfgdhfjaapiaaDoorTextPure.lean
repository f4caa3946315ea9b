/-
  What the loops of package text have written so far, sign by sign. No Go. No condition.
-/
import Derived.Test.YtkdfgdhfjaapiaaDoorSignLib
namespace Go.Proofs.YtkdfgdhfjaapiaaDoor
set_option linter.unusedVariables false

theorem flat_snoc (M : List Bs) (x : Bs) : (M ++ [x]).flatten = M.flatten ++ x := by simp
theorem take_snoc {A : List Bs} {k : Nat} (h : k < A.length) : A.take (k + 1) = A.take k ++ [A[k]] := List.take_succ_eq_append_getElem h

/-- Insert's: of the first signs, with the text ahead of the one at a. -/
def insC (M : List Bs) (a : Nat) (B : Bs) : Bs := if M.length ≤ a then M.flatten else (M.take a).flatten ++ B ++ (M.drop a).flatten
theorem insC_other {M : List Bs} {a : Nat} {B x : Bs} (h : M.length ≠ a) : insC (M ++ [x]) a B = insC M a B ++ x := by
  unfold insC
  rw [List.length_append, List.length_singleton]
  by_cases c : M.length ≤ a
  · rw [if_pos (by omega), if_pos c, flat_snoc]
  · rw [if_neg (by omega), if_neg c, List.take_append_of_le_length (by omega), List.drop_append_of_le_length (by omega), flat_snoc]
    simp only [List.append_assoc]
theorem insC_at {M : List Bs} {a : Nat} {B x : Bs} (h : M.length = a) : insC (M ++ [x]) a B = insC M a B ++ B ++ x := by
  unfold insC
  rw [List.length_append, List.length_singleton, if_neg (by omega), if_pos (by omega), List.take_append_of_le_length (by omega), List.take_of_length_le (by omega), List.drop_append_of_le_length (by omega), List.drop_of_length_le (by omega)]
  simp
theorem insC_end {A B : List Bs} {a : Nat} (h : a < A.length) : insC A a B.flatten = (A.take a ++ (B ++ A.drop a)).flatten := by
  unfold insC
  rw [if_neg (by omega)]
  simp
theorem insC_last {A B : List Bs} {a : Nat} (h : a = A.length) : insC A a B.flatten ++ B.flatten = (A.take a ++ (B ++ A.drop a)).flatten := by
  unfold insC
  rw [if_pos (by omega), List.take_of_length_le (by omega), List.drop_of_length_le (by omega)]
  simp
theorem insC_len (M : List Bs) (a : Nat) (B : Bs) : (insC M a B).length ≤ M.flatten.length + B.length := by
  unfold insC
  split
  · omega
  · have : M.flatten = (M.take a).flatten ++ (M.drop a).flatten := by rw [← List.flatten_append, List.take_append_drop]
    rw [this]
    simp only [List.length_append]
    omega
theorem insC_nil (a : Nat) (B : Bs) : insC [] a B = [] := by unfold insC; simp

/-- Cut's: what is left of the first signs, and what is out. -/
def lefC (M : List Bs) (a m : Nat) : Bs := (M.take a ++ M.drop (a + m)).flatten
def outC (M : List Bs) (a m : Nat) : Bs := ((M.drop a).take m).flatten
theorem lefC_in {M : List Bs} {a m : Nat} {x : Bs} (h : M.length < a ∨ a + m ≤ M.length) : lefC (M ++ [x]) a m = lefC M a m ++ x ∧ outC (M ++ [x]) a m = outC M a m := by
  unfold lefC outC
  rcases h with h | h
  · rw [List.take_of_length_le (l := M ++ [x]) (by rw [List.length_append, List.length_singleton]; omega), List.take_of_length_le (l := M) (by omega), List.drop_of_length_le (l := M) (by omega), List.drop_of_length_le (l := M ++ [x]) (i := a + m) (by rw [List.length_append, List.length_singleton]; omega),
      List.drop_of_length_le (l := M ++ [x]) (i := a) (by rw [List.length_append, List.length_singleton]; omega), List.drop_of_length_le (l := M) (i := a) (by omega)]
    simp
  · rw [List.take_append_of_le_length (by omega), List.drop_append_of_le_length h, List.drop_append_of_le_length (by omega), List.take_append_of_le_length (by rw [List.length_drop]; omega)]
    simp
theorem outC_in {M : List Bs} {a m : Nat} {x : Bs} (h : a ≤ M.length) (h' : M.length < a + m) : lefC (M ++ [x]) a m = lefC M a m ∧ outC (M ++ [x]) a m = outC M a m ++ x := by
  unfold lefC outC
  rw [List.take_append_of_le_length h, List.drop_of_length_le (l := M) (by omega), List.drop_of_length_le (l := M ++ [x]) (i := a + m) (by rw [List.length_append, List.length_singleton]; omega), List.drop_append_of_le_length h,
    List.take_of_length_le (l := M.drop a ++ [x]) (by rw [List.length_append, List.length_singleton, List.length_drop]; omega), List.take_of_length_le (l := M.drop a) (by rw [List.length_drop]; omega)]
  simp
theorem lefC_len (M : List Bs) (a m : Nat) : (lefC M a m).length ≤ M.flatten.length := by
  have h1 : M.flatten = (M.take a).flatten ++ (((M.drop a).take m).flatten ++ (M.drop (a + m)).flatten) := by
    rw [← List.drop_drop, ← List.flatten_append, List.take_append_drop, ← List.flatten_append, List.take_append_drop]
  unfold lefC
  rw [h1]
  simp only [List.flatten_append, List.length_append]
  omega
theorem outC_len (M : List Bs) (a m : Nat) : (outC M a m).length ≤ M.flatten.length := by
  have h1 : M.flatten = (M.take a).flatten ++ (((M.drop a).take m).flatten ++ (M.drop (a + m)).flatten) := by
    rw [← List.drop_drop, ← List.flatten_append, List.take_append_drop, ← List.flatten_append, List.take_append_drop]
  unfold outC
  rw [h1]
  simp only [List.length_append]
  omega
theorem take_len (A : List Bs) (k : Nat) : (A.take k).flatten.length ≤ A.flatten.length := off_le A k

/-- Lines': a newline's sign, a tab's. -/
theorem isS_nl : IsS [226, 143, 142] := by unfold IsS Beg; decide
theorem isS_tb : IsS [226, 135, 165] := by unfold IsS Beg; decide
theorem IsS.is10 {x : Bs} (h : IsS x) (b : UInt8) (hb : b.toNat < 128) : (dec x).1 = b.toNat ↔ x = [b] := by
  constructor
  · intro e0
    rcases h.kind with ⟨a, e, i1, i2⟩ | ⟨a, b, e, i1, i2, i3, i4, i5⟩ | ⟨a, b, c, e, i1, i2, i3, i4, i5, i6, i7⟩ | ⟨a, b, c, d, e, i1, i2, i3, i4, i5, i6, i7⟩
    · rw [e, UInt8.toNat_inj.1 (i2.symm.trans e0)]
    all_goals omega
  · intro e
    subst e
    have := (isS_low b hb)
    rcases this.kind with ⟨a, e, i1, i2⟩ | ⟨a, b, e, i1, i2, i3, i4, i5⟩ | ⟨a, b, c, e, i1, i2, i3, i4, i5, i6, i7⟩ | ⟨a, b, c, d, e, i1, i2, i3, i4, i5, i6, i7⟩
    · cases e; exact i2
    all_goals cases e
theorem IsS.line {x : Bs} (h : IsS x) : IsS (lineS x) ∧ (dec (lineS x)).1 = (if (dec x).1 = 10 then 9166 else if (dec x).1 = 9 then 8677 else (dec x).1) := by
  have h1 := h.is10 10 (by decide)
  have h2 := h.is10 9 (by decide)
  change (dec x).1 = 10 ↔ _ at h1
  change (dec x).1 = 9 ↔ _ at h2
  unfold lineS
  by_cases c : x = [10]
  · rw [if_pos c, if_pos (h1.2 c)]; exact ⟨isS_nl, by decide⟩
  · rw [if_neg c, if_neg (fun e => c (h1.1 e))]
    by_cases d : x = [9]
    · rw [if_pos d, if_pos (h2.2 d)]; exact ⟨isS_tb, by decide⟩
    · rw [if_neg d, if_neg (fun e => d (h2.1 e))]; exact ⟨h, rfl⟩
theorem line_len (x : Bs) : (lineS x).length ≤ x.length + 2 := by
  unfold lineS
  split
  · rename_i e; subst e; decide
  · split
    · rename_i e; subst e; decide
    · omega
theorem lines_len (A : List Bs) : ((A.map lineS).flatten).length ≤ A.flatten.length + 2 * A.length := by
  induction A with
  | nil => simp
  | cons x A ih =>
    have := line_len x
    rw [List.map_cons, List.flatten_cons, List.flatten_cons, List.length_append, List.length_append, List.length_cons]
    omega
theorem lines_sg {A : List Bs} (h : Sg A) : Sg (A.map lineS) := by
  intro y hy
  obtain ⟨x, hx, rfl⟩ := List.mem_map.1 hy
  exact (h x hx).line.1
theorem linesS_of {A : List Bs} (h : Sg A) : linesS A.flatten = (A.map lineS).flatten := by unfold linesS; rw [sg_of h]; rfl
end Go.Proofs.YtkdfgdhfjaapiaaDoor
