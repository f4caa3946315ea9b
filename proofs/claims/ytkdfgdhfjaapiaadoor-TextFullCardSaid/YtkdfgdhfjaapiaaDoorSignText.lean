/-
  What the document says of texts, as functions of bytes: a text put in, signs cut out, and how these undo each other. No Go. No condition.
-/
import Derived.Test.YtkdfgdhfjaapiaaDoorSignMore
namespace Go.Proofs.YtkdfgdhfjaapiaaDoor
set_option linter.unusedVariables false

/-- How many signs. -/
def lenS (s : Bs) : Nat := ((sg s).getD []).length
theorem lenS_of {L : List Bs} (h : Sg L) : lenS L.flatten = L.length := by unfold lenS; rw [sg_of h]; rfl
def insS (s : Bs) (at' : Int) (t : Bs) : Bs × Int :=
  match sg s, sg t with
  | some A, some B => if at' < 0 ∨ (A.length : Int) < at' then ([], 4) else if 4000 < A.length + B.length then ([], 6) else ((A.take at'.toNat ++ (B ++ A.drop at'.toNat)).flatten, 0)
  | _, _ => ([], 3)
def cutS (s : Bs) (at' n : Int) : Bs × Bs × Int :=
  match sg s with
  | some A => if at' < 0 ∨ n < 0 ∨ (A.length : Int) < at' ∨ (A.length : Int) - at' < n then ([], [], 4) else ((A.take at'.toNat ++ A.drop (at'.toNat + n.toNat)).flatten, ((A.drop at'.toNat).take n.toNat).flatten, 0)
  | none => ([], [], 3)
def lineS (x : Bs) : Bs := if x = [10] then [226, 143, 142] else if x = [9] then [226, 135, 165] else x
def linesS (s : Bs) : Bs := (((sg s).getD []).map lineS).flatten

theorem insS_ok {A B : List Bs} (hA : Sg A) (hB : Sg B) {k : Nat} (hk : k ≤ A.length) (hn : A.length + B.length ≤ 4000) : insS A.flatten k B.flatten = ((A.take k ++ (B ++ A.drop k)).flatten, 0) := by
  unfold insS
  rw [sg_of hA, sg_of hB]
  show (if _ then _ else if _ then _ else _) = _
  rw [if_neg (by omega), if_neg (by omega)]
  rfl
theorem insS_inv {s t a : Bs} {i : Int} (h : insS s i t = (a, 0)) : ∃ A B, ∃ k : Nat, Sg A ∧ Sg B ∧ s = A.flatten ∧ t = B.flatten ∧ i = k ∧ k ≤ A.length ∧ A.length + B.length ≤ 4000 ∧ a = (A.take k ++ (B ++ A.drop k)).flatten := by
  unfold insS at h
  cases hA : sg s with
  | none => rw [hA] at h; simp at h
  | some A =>
    cases hB : sg t with
    | none => rw [hA, hB] at h; simp at h
    | some B =>
      rw [hA, hB] at h
      obtain ⟨a1, rfl⟩ := (sg_iff _ _).1 hA
      obtain ⟨b1, rfl⟩ := (sg_iff _ _).1 hB
      change (if _ then _ else if _ then _ else _) = _ at h
      by_cases c : i < 0 ∨ (A.length : Int) < i
      · rw [if_pos c] at h; simp at h
      · rw [if_neg c] at h
        by_cases d : 4000 < A.length + B.length
        · rw [if_pos d] at h; simp at h
        · rw [if_neg d] at h
          exact ⟨A, B, i.toNat, a1, b1, rfl, rfl, by omega, by omega, by omega, (congrArg Prod.fst h).symm⟩
theorem cutS_ok {A : List Bs} (hA : Sg A) {k n : Nat} (hk : k + n ≤ A.length) : cutS A.flatten k n = ((A.take k ++ A.drop (k + n)).flatten, ((A.drop k).take n).flatten, 0) := by
  unfold cutS
  rw [sg_of hA]
  show (if _ then _ else _) = _
  rw [if_neg (by omega)]
  rfl
theorem cutS_inv {s r c : Bs} {i m : Int} (h : cutS s i m = (r, c, 0)) : ∃ A, ∃ k n : Nat, Sg A ∧ s = A.flatten ∧ i = k ∧ m = n ∧ k + n ≤ A.length ∧ r = (A.take k ++ A.drop (k + n)).flatten ∧ c = ((A.drop k).take n).flatten := by
  unfold cutS at h
  cases hA : sg s with
  | none => rw [hA] at h; simp at h
  | some A =>
    rw [hA] at h
    obtain ⟨a1, rfl⟩ := (sg_iff _ _).1 hA
    change (if _ then _ else _) = _ at h
    by_cases c' : i < 0 ∨ m < 0 ∨ (A.length : Int) < i ∨ (A.length : Int) - i < m
    · rw [if_pos c'] at h; simp at h
    · rw [if_neg c'] at h
      exact ⟨A, i.toNat, m.toNat, a1, rfl, by omega, by omega, by omega, (congrArg Prod.fst h).symm, (congrArg (·.2.1) h).symm⟩

/-- What is put in, and cut out again, leaves the text. -/
theorem ins_cut {s t a : Bs} {i : Int} (h : insS s i t = (a, 0)) : cutS a i (lenS t) = (s, t, 0) := by
  obtain ⟨A, B, k, hA, hB, rfl, rfl, rfl, hk, hn, rfl⟩ := insS_inv h
  rw [lenS_of hB, cutS_ok ((hA.take k).app (hB.app (hA.drop k))) (by simp only [List.length_append, List.length_take, List.length_drop]; omega)]
  have h1 : (A.take k).length = k := by rw [List.length_take]; omega
  have e1 : (A.take k ++ (B ++ A.drop k)).take k = A.take k := by rw [List.take_append_of_le_length (by omega), List.take_of_length_le (by omega)]
  have e2 : (A.take k ++ (B ++ A.drop k)).drop (k + B.length) = A.drop k := by
    rw [List.drop_append, List.drop_eq_nil_of_le (by omega), h1, Nat.add_sub_cancel_left, List.nil_append, List.drop_left]
  have e3 : (A.take k ++ (B ++ A.drop k)).drop k = B ++ A.drop k := by
    rw [List.drop_append, List.drop_eq_nil_of_le (by omega), h1, Nat.sub_self, List.nil_append, List.drop_zero]
  rw [e1, e2, e3, List.take_left, List.take_append_drop]
/-- What is cut out, and put in again, too. -/
theorem cut_ins {s r c : Bs} {i m : Int} (hs : lenS s ≤ 4000) (h : cutS s i m = (r, c, 0)) : insS r i c = (s, 0) := by
  obtain ⟨A, k, n, hA, rfl, rfl, rfl, hk, rfl, rfl⟩ := cutS_inv h
  rw [lenS_of hA] at hs
  have h1 : (A.take k).length = k := by rw [List.length_take]; omega
  rw [insS_ok ((hA.take k).app (hA.drop (k + n))) ((hA.drop k).take n) (by simp only [List.length_append]; omega) (by simp only [List.length_append, List.length_take, List.length_drop]; omega)]
  have e1 : (A.take k ++ A.drop (k + n)).take k = A.take k := by rw [List.take_append_of_le_length (by omega), List.take_of_length_le (by omega)]
  have e3 : (A.take k ++ A.drop (k + n)).drop k = A.drop (k + n) := by
    rw [List.drop_append, List.drop_eq_nil_of_le (by omega), h1, Nat.sub_self, List.nil_append, List.drop_zero]
  rw [e1, e3, show A.drop (k + n) = (A.drop k).drop n from by rw [List.drop_drop], List.take_append_drop, List.take_append_drop]
/-- The signs of what is put in. -/
theorem ins_signs {A B : List Bs} (hA : Sg A) (hB : Sg B) (k : Nat) : Sg (A.take k ++ (B ++ A.drop k)) := (hA.take k).app (hB.app (hA.drop k))
theorem ins_two {A B C : List Bs} (hA : Sg A) (hB : Sg B) (hC : Sg C) {k : Nat} (hk : k ≤ A.length) (hn : A.length + B.length + C.length ≤ 4000) :
    insS (insS A.flatten k B.flatten).1 k C.flatten = insS A.flatten k (C.flatten ++ B.flatten) ∧
    insS (insS A.flatten k B.flatten).1 (k + B.length : Nat) C.flatten = insS A.flatten k (B.flatten ++ C.flatten) := by
  have h1 : (A.take k).length = k := by rw [List.length_take]; omega
  have e3 : (A.take k ++ (B ++ A.drop k)).drop k = B ++ A.drop k := by
    rw [List.drop_append, List.drop_eq_nil_of_le (by omega), h1, Nat.sub_self, List.nil_append, List.drop_zero]
  have e1 : (A.take k ++ (B ++ A.drop k)).take k = A.take k := by rw [List.take_append_of_le_length (by omega), List.take_of_length_le (by omega)]
  have e2 : (A.take k ++ (B ++ A.drop k)).drop (k + B.length) = A.drop k := by
    rw [List.drop_append, List.drop_eq_nil_of_le (by omega), h1, Nat.add_sub_cancel_left, List.nil_append, List.drop_left]
  have e4 : (A.take k ++ (B ++ A.drop k)).take (k + B.length) = A.take k ++ B := by
    rw [List.take_append, List.take_of_length_le (by omega), h1, Nat.add_sub_cancel_left, List.take_left]
  rw [insS_ok hA hB hk (by omega), ← List.flatten_append, ← List.flatten_append]
  refine ⟨?_, ?_⟩
  · show insS (A.take k ++ (B ++ A.drop k)).flatten _ _ = _
    rw [insS_ok (ins_signs hA hB k) hC (by simp only [List.length_append, List.length_drop]; omega) (by simp only [List.length_append, List.length_take, List.length_drop]; omega), insS_ok hA (hC.app hB) hk (by simp only [List.length_append]; omega), e1, e3]
    simp only [List.append_assoc]
  · show insS (A.take k ++ (B ++ A.drop k)).flatten _ _ = _
    rw [insS_ok (ins_signs hA hB k) hC (by simp only [List.length_append, List.length_drop]; omega) (by simp only [List.length_append, List.length_take, List.length_drop]; omega), insS_ok hA (hB.app hC) hk (by simp only [List.length_append]; omega), e2, e4]
    simp only [List.append_assoc]
theorem Sg.le {L : List Bs} (h : Sg L) : L.length ≤ L.flatten.length := by
  induction L with
  | nil => simp
  | cons x L ih => have := ih h.tail; have := h.head.1; rw [List.flatten_cons, List.length_append, List.length_cons]; omega
theorem lenS_le (s : Bs) : lenS s ≤ s.length := by
  unfold lenS
  cases h : sg s with
  | none => simp
  | some L => obtain ⟨h1, rfl⟩ := (sg_iff _ _).1 h; exact h1.le
/-- Many times one sign. -/
theorem sg_rep {x : Bs} (h : IsS x) (n : Nat) : Sg (List.replicate n x) := by
  intro y hy; rw [List.mem_replicate] at hy; rw [hy.2]; exact h
end Go.Proofs.YtkdfgdhfjaapiaaDoor
