/-
  Texts, sign by sign, as lists of bytes: what a sign is, that a text of signs is so in one way alone, and what stands at each place. No Go. No condition.
-/
import Derived.Lib.DecodeN
namespace Go.Proofs.YtkdfgdhfjaapiaaDoor
set_option linter.unusedVariables false

abbrev Bs := List UInt8
/-- What the model's decoder tells of these bytes' beginning. -/
def dec (l : Bs) : Nat × Nat := Lib.decodeN l.length (l.getD 0 0).toNat (l.getD 1 0).toNat (l.getD 2 0).toNat (l.getD 3 0).toNat
/-- They begin with a sign. -/
def Beg (l : Bs) : Prop := (dec l).1 ≠ 65533 ∨ 1 < (dec l).2
instance (l : Bs) : Decidable (Beg l) := by unfold Beg; infer_instance
/-- They are one sign. -/
def IsS (x : Bs) : Prop := 0 < x.length ∧ (dec x).2 = x.length ∧ Beg x

theorem get_drop (s : ByteArray) (i k : Nat) : s.get! (i + k) = (s.data.toList.drop i).getD k 0 := by
  rw [List.getD_eq_getElem?_getD, List.getElem?_drop, Array.getElem?_toList]
  show s.data[i + k]! = _
  rw [getElem!_def]
  cases s.data[i + k]? <;> rfl
theorem decode_dec (s : ByteArray) (i : Nat) : Utf8.decode s i = dec (s.data.toList.drop i) := by
  rw [Lib.decode_at, dec]
  have h0 := get_drop s i 0
  rw [Nat.add_zero] at h0
  rw [h0, get_drop s i 1, get_drop s i 2, get_drop s i 3]
  congr 1
  rw [List.length_drop]; rfl

/-- A sign is one of the four kinds of bytes. -/
theorem decodeN_le (n a b c d : Nat) : 1 ≤ (Lib.decodeN n a b c d).2 ∧ (Lib.decodeN n a b c d).2 ≤ 4 := by
  unfold Lib.decodeN
  repeat' split
  all_goals simp
theorem decodeN_len (n a b c d : Nat) (hn : 1 ≤ n) : (Lib.decodeN n a b c d).2 ≤ n := by
  unfold Lib.decodeN
  repeat' split
  all_goals simp
  all_goals omega
theorem dec_le (l : Bs) : 1 ≤ (dec l).2 ∧ (dec l).2 ≤ 4 := decodeN_le _ _ _ _ _
theorem dec_len (l : Bs) (h : l ≠ []) : (dec l).2 ≤ l.length := decodeN_len _ _ _ _ _ (List.length_pos_iff.2 h)

/-- Only as many bytes are looked at as the sign has. -/
theorem decodeN_more (n m a b c d b' c' d' : Nat) (w : Nat) (hw : (Lib.decodeN n a b c d).2 = w) (hB : (Lib.decodeN n a b c d).1 ≠ 65533 ∨ 1 < w) (hn : 1 ≤ n) (hm : w ≤ m) (hb : 1 < w → b' = b) (hc : 2 < w → c' = c) (hd : 3 < w → d' = d) : Lib.decodeN m a b' c' d' = Lib.decodeN n a b c d := by
  subst hw
  unfold Lib.decodeN at hB hm hb hc hd ⊢
  by_cases h1 : a < 128
  · rw [if_pos h1, if_pos h1]
  · rw [if_neg h1] at hB hm hb hc hd ⊢
    rw [if_neg h1]
    by_cases h2 : a / 32 = 6 ∧ (1 < n ∧ b / 64 = 2)
    · rw [if_pos h2] at hB hm hb hc hd ⊢
      by_cases h3 : a % 32 * 64 + b % 64 ≥ 128
      · rw [if_pos h3] at hB hm hb hc hd ⊢
        have e := hb (by show 1 < 2; omega)
        have hm2 : 2 ≤ m := hm
        subst e
        rw [if_pos ⟨h2.1, by omega, h2.2.2⟩, if_pos h3]
      · rw [if_neg h3] at hB; simp at hB
    · rw [if_neg h2] at hB hm hb hc hd ⊢
      by_cases h4 : a / 16 = 14 ∧ (1 < n ∧ b / 64 = 2) ∧ (2 < n ∧ c / 64 = 2)
      · rw [if_pos h4] at hB hm hb hc hd ⊢
        split at hB
        · rename_i h5
          rw [if_pos h5] at hm hb hc hd ⊢
          have e := hb (by show 1 < 3; omega)
          have e' := hc (by show 2 < 3; omega)
          have hm2 : 3 ≤ m := hm
          subst e e'
          rw [if_neg (by omega), if_pos ⟨h4.1, ⟨by omega, h4.2.1.2⟩, by omega, h4.2.2.2⟩, if_pos h5]
        · simp at hB
      · rw [if_neg h4] at hB hm hb hc hd ⊢
        by_cases h6 : a / 8 = 30 ∧ (1 < n ∧ b / 64 = 2) ∧ (2 < n ∧ c / 64 = 2) ∧ (3 < n ∧ d / 64 = 2)
        · rw [if_pos h6] at hB hm hb hc hd ⊢
          split at hB
          · rename_i h7
            rw [if_pos h7] at hm hb hc hd ⊢
            have e := hb (by show 1 < 4; omega)
            have e' := hc (by show 2 < 4; omega)
            have e'' := hd (by show 3 < 4; omega)
            have hm2 : 4 ≤ m := hm
            subst e e' e''
            rw [if_neg (by omega), if_neg (by omega), if_pos ⟨h6.1, ⟨by omega, h6.2.1.2⟩, ⟨by omega, h6.2.2.1.2⟩, by omega, h6.2.2.2.2⟩, if_pos h7]
          · simp at hB
        · rw [if_neg h6] at hB; simp at hB

theorem getD_app (x y : Bs) (k : Nat) (h : k < x.length) : (x ++ y).getD k 0 = x.getD k 0 := by
  rw [List.getD_eq_getElem?_getD, List.getD_eq_getElem?_getD, List.getElem?_append_left h]
theorem getD_take (l : Bs) (n k : Nat) (h : k < n) : (l.take n).getD k 0 = l.getD k 0 := by
  rw [List.getD_eq_getElem?_getD, List.getD_eq_getElem?_getD, List.getElem?_take_of_lt h]
/-- What stands behind a sign doesn't matter. -/
theorem IsS.app {x : Bs} (h : IsS x) (y : Bs) : dec (x ++ y) = dec x := by
  obtain ⟨h0, h1, h2⟩ := h
  have e0 := getD_app x y 0 h0
  unfold dec at h1 ⊢
  unfold Beg dec at h2
  rw [e0]
  refine decodeN_more x.length _ _ _ _ _ _ _ _ x.length h1 (by rw [h1] at h2; exact h2) h0 (by rw [List.length_append]; omega) ?_ ?_ ?_
  all_goals intro hk; rw [getD_app x y _ (by omega)]
theorem IsS.beg {x : Bs} (h : IsS x) (y : Bs) : Beg (x ++ y) := by unfold Beg; rw [h.app]; exact h.2.2
/-- What begins with a sign has it as its beginning. -/
theorem Beg.sign {l : Bs} (h : Beg l) (hl : l ≠ []) : IsS (l.take (dec l).2) ∧ dec (l.take (dec l).2) = dec l := by
  have hn := List.length_pos_iff.2 hl
  have h1 := (dec_le l).1
  have h2 := dec_len l hl
  have hlen : (l.take (dec l).2).length = (dec l).2 := by rw [List.length_take]; omega
  have e : dec (l.take (dec l).2) = dec l := by
    unfold Beg at h
    obtain ⟨w, hw⟩ : ∃ w, (dec l).2 = w := ⟨_, rfl⟩
    rw [hw] at h h1 h2 hlen ⊢
    unfold dec at h hw ⊢
    rw [hlen, getD_take _ _ 0 (by omega)]
    refine decodeN_more l.length _ _ _ _ _ _ _ _ w hw h hn (Nat.le_refl _) ?_ ?_ ?_
    all_goals intro hk; rw [getD_take _ _ _ hk]
  refine ⟨⟨by omega, by rw [e, hlen], ?_⟩, e⟩
  unfold Beg; rw [e]; exact h
theorem dec_not {l : Bs} (h : ¬ Beg l) : dec l = (65533, 1) := by
  unfold Beg at h
  have := (dec_le l).1
  refine Prod.ext ?_ ?_
  · by_cases e : (dec l).1 = 65533
    · exact e
    · exact absurd (Or.inl e) h
  · show (dec l).2 = 1
    omega

/-- All are signs. -/
def Sg (L : List Bs) : Prop := ∀ x ∈ L, IsS x
theorem Sg.nil : Sg [] := by intro x hx; simp at hx
theorem Sg.cons {x : Bs} {L : List Bs} (h : IsS x) (hL : Sg L) : Sg (x :: L) := by
  intro y hy
  rcases List.mem_cons.1 hy with rfl | hy
  · exact h
  · exact hL y hy
theorem Sg.head {x : Bs} {L : List Bs} (h : Sg (x :: L)) : IsS x := h x (by simp)
theorem Sg.tail {x : Bs} {L : List Bs} (h : Sg (x :: L)) : Sg L := fun y hy => h y (by simp [hy])
theorem Sg.app {A B : List Bs} (h : Sg A) (h' : Sg B) : Sg (A ++ B) := by
  intro y hy
  rcases List.mem_append.1 hy with hy | hy
  · exact h y hy
  · exact h' y hy
theorem Sg.take {A : List Bs} (h : Sg A) (k : Nat) : Sg (A.take k) := fun y hy => h y (List.mem_of_mem_take hy)
theorem Sg.drop {A : List Bs} (h : Sg A) (k : Nat) : Sg (A.drop k) := fun y hy => h y (List.mem_of_mem_drop hy)

/-- The bytes' signs, one by one; none where they aren't such. -/
def sgF : Nat → Bs → Option (List Bs)
  | 0, _ => some []
  | f + 1, l => if l = [] then some [] else if Beg l then (sgF f (l.drop (dec l).2)).map (l.take (dec l).2 :: ·) else none
def sg (l : Bs) : Option (List Bs) := sgF l.length l

theorem sgF_some : ∀ (f : Nat) (l : Bs) (L : List Bs), l.length ≤ f → sgF f l = some L → Sg L ∧ L.flatten = l
  | 0, l, L, hf, h => by
    have : l = [] := List.eq_nil_of_length_eq_zero (by omega)
    subst this
    cases h
    exact ⟨Sg.nil, rfl⟩
  | f + 1, l, L, hf, h => by
    unfold sgF at h
    by_cases h0 : l = []
    · rw [if_pos h0] at h; cases h; subst h0; exact ⟨Sg.nil, rfl⟩
    · rw [if_neg h0] at h
      by_cases hb : Beg l
      · rw [if_pos hb] at h
        obtain ⟨M, hM, rfl⟩ := Option.map_eq_some_iff.1 h
        have h1 := (dec_le l).1
        have ih := sgF_some f _ M (by rw [List.length_drop]; omega) hM
        refine ⟨Sg.cons (hb.sign h0).1 ih.1, ?_⟩
        rw [List.flatten_cons, ih.2, List.take_append_drop]
      · rw [if_neg hb] at h; cases h
theorem sgF_of : ∀ (f : Nat) (L : List Bs), Sg L → L.flatten.length ≤ f → sgF f L.flatten = some L
  | 0, [], _, _ => rfl
  | f + 1, [], _, _ => by simp [sgF]
  | 0, x :: L, h, hf => by
    have := h.head.1
    simp at hf
    have : x.length = 0 := by rw [hf.1]; rfl
    omega
  | f + 1, x :: L, h, hf => by
    have hx := h.head
    have e := hx.app L.flatten
    have hx0 := hx.1
    have hne : (x :: L).flatten ≠ [] := by
      intro h'
      have := congrArg List.length h'
      simp at this
      rw [this.1] at hx0; simp at hx0
    unfold sgF
    rw [if_neg hne]
    rw [List.flatten_cons] at hf ⊢
    rw [if_pos (hx.beg _), e, hx.2.1, List.take_left, List.drop_left, sgF_of f L h.tail (by rw [List.length_append] at hf; omega)]
    rfl
/-- A text of signs is so in one way. -/
theorem sg_iff (l : Bs) (L : List Bs) : sg l = some L ↔ Sg L ∧ L.flatten = l :=
  ⟨sgF_some _ l L (Nat.le_refl _), fun ⟨h, e⟩ => by subst e; exact sgF_of _ L h (Nat.le_refl _)⟩
theorem sg_of {L : List Bs} (h : Sg L) : sg L.flatten = some L := (sg_iff _ _).2 ⟨h, rfl⟩
theorem sg_one {A B : List Bs} (hA : Sg A) (hB : Sg B) (h : A.flatten = B.flatten) : A = B := by
  have := sg_of hA
  rw [h, sg_of hB] at this
  exact (Option.some.inj this).symm
theorem sg_nil : sg [] = some [] := rfl
theorem sg_step {l : Bs} (h0 : l ≠ []) (hb : Beg l) : sg l = (sg (l.drop (dec l).2)).map (l.take (dec l).2 :: ·) := by
  have hs := hb.sign h0
  cases hM : sg (l.drop (dec l).2) with
  | some M =>
    obtain ⟨h1, h2⟩ := (sg_iff _ _).1 hM
    refine (sg_iff _ _).2 ⟨Sg.cons hs.1 h1, ?_⟩
    show (l.take (dec l).2 :: M).flatten = l
    rw [List.flatten_cons, h2, List.take_append_drop]
  | none =>
    cases hL : sg l with
    | none => rfl
    | some L =>
      exfalso
      obtain ⟨h1, h2⟩ := (sg_iff _ _).1 hL
      cases L with
      | nil => exact h0 h2.symm
      | cons x L =>
        have e := h1.head.app L.flatten
        rw [List.flatten_cons] at h2
        rw [h2] at e
        rw [e, h1.head.2.1, ← h2, List.drop_left, sg_of h1.tail] at hM
        cases hM
theorem sg_stop {l : Bs} (h0 : l ≠ []) (hb : ¬ Beg l) : sg l = none := by
  cases hL : sg l with
  | none => rfl
  | some L =>
    exfalso
    obtain ⟨h1, h2⟩ := (sg_iff _ _).1 hL
    cases L with
    | nil => exact h0 h2.symm
    | cons x L =>
      rw [List.flatten_cons] at h2
      rw [← h2] at hb
      exact hb (h1.head.beg _)
/-- Where a text is none of signs: behind some signs something doesn't begin with one. -/
theorem sg_none {l : Bs} (h : sg l = none) : ∃ A r, Sg A ∧ l = A.flatten ++ r ∧ r ≠ [] ∧ ¬ Beg r := by
  obtain ⟨n, hn⟩ : ∃ n, l.length = n := ⟨_, rfl⟩
  induction n using Nat.strongRecOn generalizing l with
  | _ n ih =>
    by_cases h0 : l = []
    · subst h0; rw [sg_nil] at h; cases h
    · by_cases hb : Beg l
      · rw [sg_step h0 hb, Option.map_eq_none_iff] at h
        have h1 := (dec_le l).1
        have h2 := List.length_pos_iff.2 h0
        obtain ⟨A, r, hA, e, hr⟩ := ih _ (by rw [List.length_drop]; omega) h rfl
        refine ⟨l.take (dec l).2 :: A, r, Sg.cons (hb.sign h0).1 hA, ?_, hr⟩
        rw [List.flatten_cons, List.append_assoc, ← e, List.take_append_drop]
      · exact ⟨[], l, Sg.nil, rfl, h0, hb⟩
theorem sg_not {A : List Bs} {r : Bs} (hA : Sg A) (h0 : r ≠ []) (hb : ¬ Beg r) : sg (A.flatten ++ r) = none := by
  induction A with
  | nil => exact sg_stop h0 hb
  | cons x A ih =>
    have hx := hA.head
    have e : (x :: A).flatten ++ r = x ++ (A.flatten ++ r) := by rw [List.flatten_cons, List.append_assoc]
    have hx0 := hx.1
    rw [e, sg_step (by intro h'; have := congrArg List.length h'; simp at this; rw [this.1] at hx0; simp at hx0) (hx.beg _), hx.app, hx.2.1, List.drop_left, ih hA.tail]
    rfl

/-! ### at a place within a text -/
/-- How many bytes stand ahead of the sign. -/
def off (L : List Bs) (k : Nat) : Nat := (L.take k).flatten.length
theorem off_zero (L : List Bs) : off L 0 = 0 := rfl
theorem off_succ (L : List Bs) (k : Nat) (h : k < L.length) : off L (k + 1) = off L k + L[k].length := by
  unfold off
  rw [List.take_succ_eq_append_getElem h, List.flatten_append, List.length_append]
  simp
theorem off_all (L : List Bs) (k : Nat) (h : L.length ≤ k) : off L k = L.flatten.length := by
  unfold off; rw [List.take_of_length_le h]
theorem flat_drop (L : List Bs) (k : Nat) : L.flatten.drop (off L k) = (L.drop k).flatten := by
  have e : L.flatten = (L.take k).flatten ++ (L.drop k).flatten := by rw [← List.flatten_append, List.take_append_drop]
  rw [e]; unfold off; rw [List.drop_left]
theorem flat_take (L : List Bs) (k : Nat) : L.flatten.take (off L k) = (L.take k).flatten := by
  have e : L.flatten = (L.take k).flatten ++ (L.drop k).flatten := by rw [← List.flatten_append, List.take_append_drop]
  rw [e]; unfold off; rw [List.take_left]
theorem off_le (L : List Bs) (k : Nat) : off L k ≤ L.flatten.length := by
  have e : L.flatten = (L.take k).flatten ++ (L.drop k).flatten := by rw [← List.flatten_append, List.take_append_drop]
  rw [e, List.length_append]; unfold off; omega
theorem off_mono (L : List Bs) {i k : Nat} (h : i ≤ k) : off L i ≤ off L k := by
  have e : (L.take k).take i = L.take i := by rw [List.take_take]; congr 1; omega
  have := off_le (L.take k) i
  unfold off at this ⊢
  rw [e] at this; exact this
theorem off_lt {L : List Bs} (h : Sg L) {k : Nat} (hk : k < L.length) : off L k < L.flatten.length := by
  have h1 := off_succ L k hk
  have h2 := off_le L (k + 1)
  have h3 := (h _ (List.getElem_mem hk)).1
  omega
/-- What is decoded at a sign's place: the sign. -/
theorem dec_off {L : List Bs} (h : Sg L) {k : Nat} (hk : k < L.length) (r : Bs) : dec ((L.flatten ++ r).drop (off L k)) = dec L[k] := by
  have hx := h _ (List.getElem_mem hk)
  rw [List.drop_append_of_le_length (off_le L k), flat_drop, List.drop_eq_getElem_cons hk, List.flatten_cons, List.append_assoc, hx.app]
theorem dec_off' {L : List Bs} (h : Sg L) {k : Nat} (hk : k < L.length) : dec (L.flatten.drop (off L k)) = dec L[k] := by
  have := dec_off h hk []
  rwa [List.append_nil] at this
end Go.Proofs.YtkdfgdhfjaapiaaDoor
