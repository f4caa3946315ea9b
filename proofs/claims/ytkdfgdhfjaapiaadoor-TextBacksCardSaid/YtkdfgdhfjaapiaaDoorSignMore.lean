/-
  Signs: a sign's number written out again is the sign; a byte below 128 within a text stands alone; what is put in and cut out. No Go. No condition.
-/
import Derived.Test.YtkdfgdhfjaapiaaDoorSignPure
namespace Go.Proofs.YtkdfgdhfjaapiaaDoor
set_option linter.unusedVariables false

theorem decodeN_kind (n a b c d : Nat) :
    ((Lib.decodeN n a b c d).2 = 1 → (Lib.decodeN n a b c d).1 ≠ 65533 → a < 128 ∧ (Lib.decodeN n a b c d).1 = a) ∧
    ((Lib.decodeN n a b c d).2 = 2 → a / 32 = 6 ∧ b / 64 = 2 ∧ (Lib.decodeN n a b c d).1 = a % 32 * 64 + b % 64 ∧ 128 ≤ a % 32 * 64 + b % 64) ∧
    ((Lib.decodeN n a b c d).2 = 3 → a / 16 = 14 ∧ b / 64 = 2 ∧ c / 64 = 2 ∧ (Lib.decodeN n a b c d).1 = a % 16 * 4096 + b % 64 * 64 + c % 64 ∧ 2048 ≤ a % 16 * 4096 + b % 64 * 64 + c % 64 ∧ (a % 16 * 4096 + b % 64 * 64 + c % 64 < 55296 ∨ 57344 ≤ a % 16 * 4096 + b % 64 * 64 + c % 64)) ∧
    ((Lib.decodeN n a b c d).2 = 4 → a / 8 = 30 ∧ b / 64 = 2 ∧ c / 64 = 2 ∧ d / 64 = 2 ∧ (Lib.decodeN n a b c d).1 = a % 8 * 262144 + b % 64 * 4096 + c % 64 * 64 + d % 64 ∧ 65536 ≤ a % 8 * 262144 + b % 64 * 4096 + c % 64 * 64 + d % 64 ∧ a % 8 * 262144 + b % 64 * 4096 + c % 64 * 64 + d % 64 ≤ 1114111) := by
  unfold Lib.decodeN
  by_cases h1 : a < 128
  · rw [if_pos h1]
    refine ⟨fun _ _ => ⟨h1, rfl⟩, fun h => ?_, fun h => ?_, fun h => ?_⟩ <;> simp at h
  · rw [if_neg h1]
    by_cases h2 : a / 32 = 6 ∧ (1 < n ∧ b / 64 = 2)
    · rw [if_pos h2]
      split
      · rename_i h3
        refine ⟨fun h => ?_, fun _ => ⟨h2.1, h2.2.2, rfl, h3⟩, fun h => ?_, fun h => ?_⟩ <;> simp at h
      · refine ⟨fun _ h => absurd rfl h, fun h => ?_, fun h => ?_, fun h => ?_⟩ <;> simp at h
    · rw [if_neg h2]
      by_cases h4 : a / 16 = 14 ∧ (1 < n ∧ b / 64 = 2) ∧ (2 < n ∧ c / 64 = 2)
      · rw [if_pos h4]
        split
        · rename_i h5
          refine ⟨fun h => ?_, fun h => ?_, fun _ => ⟨h4.1, h4.2.1.2, h4.2.2.2, rfl, h5.1, h5.2.imp id And.left⟩, fun h => ?_⟩ <;> simp at h
        · refine ⟨fun _ h => absurd rfl h, fun h => ?_, fun h => ?_, fun h => ?_⟩ <;> simp at h
      · rw [if_neg h4]
        by_cases h6 : a / 8 = 30 ∧ (1 < n ∧ b / 64 = 2) ∧ (2 < n ∧ c / 64 = 2) ∧ (3 < n ∧ d / 64 = 2)
        · rw [if_pos h6]
          split
          · rename_i h7
            refine ⟨fun h => ?_, fun h => ?_, fun h => ?_, fun _ => ⟨h6.1, h6.2.1.2, h6.2.2.1.2, h6.2.2.2.2, rfl, h7.1, ?_⟩⟩
            · simp at h
            · simp at h
            · simp at h
            · rcases h7.2 with h | h
              · omega
              · exact h.2
          · refine ⟨fun _ h => absurd rfl h, fun h => ?_, fun h => ?_, fun h => ?_⟩ <;> simp at h
        · rw [if_neg h6]
          refine ⟨fun _ h => absurd rfl h, fun h => ?_, fun h => ?_, fun h => ?_⟩ <;> simp at h

theorem byte_of (a : UInt8) (n : Nat) (h : n = a.toNat) : UInt8.ofNat n = a := by subst h; simp

/-- A sign has one to four bytes. -/
theorem IsS.four {x : Bs} (h : IsS x) : (∃ a, x = [a]) ∨ (∃ a b, x = [a, b]) ∨ (∃ a b c, x = [a, b, c]) ∨ ∃ a b c d, x = [a, b, c, d] := by
  have h1 := (dec_le x).2
  have h2 := h.2.1
  have h0 := h.1
  rcases x with _ | ⟨a, _ | ⟨b, _ | ⟨c, _ | ⟨d, _ | ⟨e, r⟩⟩⟩⟩⟩
  · simp at h0
  · exact Or.inl ⟨_, rfl⟩
  · exact Or.inr (Or.inl ⟨_, _, rfl⟩)
  · exact Or.inr (Or.inr (Or.inl ⟨_, _, _, rfl⟩))
  · exact Or.inr (Or.inr (Or.inr ⟨_, _, _, _, rfl⟩))
  · rw [h2] at h1; simp at h1

/-- What a sign is: its kind, its number. -/
theorem IsS.kind {x : Bs} (h : IsS x) :
    (∃ a : UInt8, x = [a] ∧ a.toNat < 128 ∧ (dec x).1 = a.toNat) ∨
    (∃ a b : UInt8, x = [a, b] ∧ a.toNat / 32 = 6 ∧ b.toNat / 64 = 2 ∧ (dec x).1 = a.toNat % 32 * 64 + b.toNat % 64 ∧ 128 ≤ (dec x).1 ∧ (dec x).1 < 2048) ∨
    (∃ a b c : UInt8, x = [a, b, c] ∧ a.toNat / 16 = 14 ∧ b.toNat / 64 = 2 ∧ c.toNat / 64 = 2 ∧ (dec x).1 = a.toNat % 16 * 4096 + b.toNat % 64 * 64 + c.toNat % 64 ∧ 2048 ≤ (dec x).1 ∧ (dec x).1 < 65536 ∧ ((dec x).1 < 55296 ∨ 57344 ≤ (dec x).1)) ∨
    ∃ a b c d : UInt8, x = [a, b, c, d] ∧ a.toNat / 8 = 30 ∧ b.toNat / 64 = 2 ∧ c.toNat / 64 = 2 ∧ d.toNat / 64 = 2 ∧ (dec x).1 = a.toNat % 8 * 262144 + b.toNat % 64 * 4096 + c.toNat % 64 * 64 + d.toNat % 64 ∧ 65536 ≤ (dec x).1 ∧ (dec x).1 ≤ 1114111 := by
  have h2 := h.2.1
  have h3 := h.2.2
  have k := decodeN_kind x.length (x.getD 0 0).toNat (x.getD 1 0).toNat (x.getD 2 0).toNat (x.getD 3 0).toNat
  change ((dec x).2 = 1 → (dec x).1 ≠ 65533 → _ ∧ (dec x).1 = _) ∧ ((dec x).2 = 2 → _ ∧ _ ∧ (dec x).1 = _ ∧ _) ∧ ((dec x).2 = 3 → _ ∧ _ ∧ _ ∧ (dec x).1 = _ ∧ _) ∧ ((dec x).2 = 4 → _ ∧ _ ∧ _ ∧ _ ∧ (dec x).1 = _ ∧ _) at k
  obtain ⟨k1, k2, k3, k4⟩ := k
  unfold Beg at h3
  rcases h.four with ⟨a, e⟩ | ⟨a, b, e⟩ | ⟨a, b, c, e⟩ | ⟨a, b, c, d, e⟩
  · have e2 : (dec x).2 = 1 := by rw [h2, e]; rfl
    obtain ⟨i, j⟩ := k1 e2 (by rcases h3 with h3 | h3; exact h3; omega)
    rw [e] at i j
    exact Or.inl ⟨a, e, i, by rw [e]; exact j⟩
  · have e2 : (dec x).2 = 2 := by rw [h2, e]; rfl
    obtain ⟨i1, i2, i3, i4⟩ := k2 e2
    rw [e] at i1 i2 i3 i4
    simp only [List.getD_cons_zero, List.getD_cons_succ] at i1 i2 i3 i4
    have hb := b.toNat_lt
    refine Or.inr (Or.inl ⟨a, b, e, i1, i2, by rw [e]; exact i3, ?_, ?_⟩)
    · rw [e, i3]; exact i4
    · rw [e, i3]; omega
  · have e2 : (dec x).2 = 3 := by rw [h2, e]; rfl
    obtain ⟨i1, i2, i3, i4, i5, i6⟩ := k3 e2
    rw [e] at i1 i2 i3 i4 i5 i6
    simp only [List.getD_cons_zero, List.getD_cons_succ] at i1 i2 i3 i4 i5 i6
    refine Or.inr (Or.inr (Or.inl ⟨a, b, c, e, i1, i2, i3, by rw [e]; exact i4, ?_, ?_, ?_⟩))
    · rw [e, i4]; exact i5
    · rw [e, i4]; omega
    · rw [e, i4]; exact i6
  · have e2 : (dec x).2 = 4 := by rw [h2, e]; rfl
    obtain ⟨i1, i2, i3, i4, i5, i6, i7⟩ := k4 e2
    rw [e] at i1 i2 i3 i4 i5 i6 i7
    simp only [List.getD_cons_zero, List.getD_cons_succ] at i1 i2 i3 i4 i5 i6 i7
    refine Or.inr (Or.inr (Or.inr ⟨a, b, c, d, e, i1, i2, i3, i4, by rw [e]; exact i5, ?_, ?_⟩))
    · rw [e, i5]; exact i6
    · rw [e, i5]; exact i7

/-- Its number written out is the sign. -/
theorem IsS.enc {x : Bs} (h : IsS x) : (Utf8.encode ((dec x).1 : Int)).data.toList = x := by
  have hv : Utf8.valid ((dec x).1 : Int) = true := by
    unfold Utf8.valid
    simp only [Bool.or_eq_true, Bool.and_eq_true, decide_eq_true_eq]
    rcases h.kind with ⟨a, e, i1, i2⟩ | ⟨a, b, e, i1, i2, i3, i4, i5⟩ | ⟨a, b, c, e, i1, i2, i3, i4, i5, i6, i7⟩ | ⟨a, b, c, d, e, i1, i2, i3, i4, i5, i6, i7⟩ <;> omega
  unfold Utf8.encode
  simp only [hv, if_true, Int.toNat_natCast]
  rcases h.kind with ⟨a, e, i1, i2⟩ | ⟨a, b, e, i1, i2, i3, i4, i5⟩ | ⟨a, b, c, e, i1, i2, i3, i4, i5, i6, i7⟩ | ⟨a, b, c, d, e, i1, i2, i3, i4, i5, i6, i7⟩
  · rw [if_pos (by omega)]
    show [_] = _
    rw [byte_of a _ i2, e]
  · rw [if_neg (by omega), if_pos (by omega)]
    show [_, _] = _
    rw [byte_of a _ (by omega), byte_of b _ (by omega), e]
  · rw [if_neg (by omega), if_neg (by omega), if_pos (by omega)]
    show [_, _, _] = _
    rw [byte_of a _ (by omega), byte_of b _ (by omega), byte_of c _ (by omega), e]
  · rw [if_neg (by omega), if_neg (by omega), if_neg (by omega)]
    show [_, _, _, _] = _
    have := a.toNat_lt
    rw [byte_of a _ (by omega), byte_of b _ (by omega), byte_of c _ (by omega), byte_of d _ (by omega), e]
/-- Behind its first byte a sign has no byte below 128; its first one is such only where it stands alone. -/
theorem IsS.low {x : Bs} (h : IsS x) {i : Nat} (hi : i < x.length) (hb : (x[i]).toNat < 128) : x.length = 1 := by
  rcases h.kind with ⟨a, e, i1, i2⟩ | ⟨a, b, e, i1, i2, i3, i4, i5⟩ | ⟨a, b, c, e, i1, i2, i3, i4, i5, i6, i7⟩ | ⟨a, b, c, d, e, i1, i2, i3, i4, i5, i6, i7⟩ <;> subst e
  · rfl
  · exfalso
    rcases i with _ | _ | i
    · simp at hb; omega
    · simp at hb; omega
    · simp at hi; omega
  · exfalso
    rcases i with _ | _ | _ | i
    · simp at hb; omega
    · simp at hb; omega
    · simp at hb; omega
    · simp at hi; omega
  · exfalso
    rcases i with _ | _ | _ | _ | i
    · simp at hb; omega
    · simp at hb; omega
    · simp at hb; omega
    · simp at hb; omega
    · simp at hi; omega
theorem isS_low (b : UInt8) (h : b.toNat < 128) : IsS [b] := by
  have e : dec [b] = (b.toNat, 1) := by
    show Lib.decodeN 1 b.toNat 0 0 0 = _
    unfold Lib.decodeN
    rw [if_pos h]
  exact ⟨by simp, by rw [e]; rfl, Or.inl (by rw [e]; show b.toNat ≠ 65533; omega)⟩
/-- A byte below 128 parts a text's signs. -/
theorem sg_parts {b : UInt8} (hb : b.toNat < 128) : ∀ (L : List Bs) (l m : Bs), Sg L → L.flatten = l ++ b :: m → ∃ A B, Sg A ∧ Sg B ∧ A.flatten = l ∧ B.flatten = m ∧ L = A ++ [b] :: B
  | [], l, m, h, e => by simp at e
  | x :: L, l, m, h, e => by
    have hx := h.head
    rw [List.flatten_cons] at e
    rcases Nat.lt_or_ge l.length x.length with hl | hl
    · -- the byte is within the sign: it is the sign
      have hg : x[l.length] = b := by
        have h1 : (x ++ L.flatten)[l.length]? = (l ++ b :: m)[l.length]? := by rw [e]
        rw [List.getElem?_append_left hl, List.getElem?_append_right (Nat.le_refl _)] at h1
        simp [List.getElem?_eq_getElem hl] at h1
        exact h1
      have h1 := hx.low hl (by rw [hg]; exact hb)
      have hl0 : l = [] := List.eq_nil_of_length_eq_zero (by omega)
      subst hl0
      obtain ⟨y, rfl⟩ := List.length_eq_one_iff.1 h1
      simp at e
      obtain ⟨rfl, rfl⟩ := e
      exact ⟨[], L, Sg.nil, h.tail, rfl, rfl, rfl⟩
    · have e1 : x = l.take x.length := by
        have := congrArg (List.take x.length) e
        rw [List.take_left, List.take_append_of_le_length hl] at this
        exact this
      have e2 : L.flatten = l.drop x.length ++ b :: m := by
        have := congrArg (List.drop x.length) e
        rw [List.drop_left, List.drop_append_of_le_length hl] at this
        exact this
      obtain ⟨A, B, hA, hB, eA, eB, rfl⟩ := sg_parts hb L _ m h.tail e2
      refine ⟨x :: A, B, Sg.cons hx hA, hB, ?_, eB, rfl⟩
      rw [List.flatten_cons, eA]
      conv => lhs; arg 1; rw [e1]
      exact List.take_append_drop _ _
theorem sg_bar {b : UInt8} (hb : b.toNat < 128) (l m : Bs) : sg (l ++ b :: m) = (sg l).bind fun A => (sg m).map fun B => A ++ [b] :: B := by
  cases hL : sg (l ++ b :: m) with
  | some L =>
    obtain ⟨h1, h2⟩ := (sg_iff _ _).1 hL
    obtain ⟨A, B, hA, hB, rfl, rfl, rfl⟩ := sg_parts hb L l m h1 h2
    rw [sg_of hA, sg_of hB]; rfl
  | none =>
    cases hA : sg l with
    | none => rfl
    | some A =>
      cases hB : sg m with
      | none => rfl
      | some B =>
        exfalso
        obtain ⟨a1, rfl⟩ := (sg_iff _ _).1 hA
        obtain ⟨b1, rfl⟩ := (sg_iff _ _).1 hB
        have := sg_of (a1.app (Sg.cons (isS_low b hb) b1))
        rw [List.flatten_append, List.flatten_cons] at this
        rw [show A.flatten ++ b :: B.flatten = A.flatten ++ ([b] ++ B.flatten) from rfl, this] at hL
        cases hL
end Go.Proofs.YtkdfgdhfjaapiaaDoor
