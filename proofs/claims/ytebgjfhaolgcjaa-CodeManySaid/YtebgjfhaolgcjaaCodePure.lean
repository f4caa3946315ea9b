/-
  Moves as data, their bytes, and which bytes are whose. No Go. No condition.
-/
import Derived.Test.YtebgjfhaolgcjaaBase
namespace Go.Proofs.Ytebgjfhaolgcjaa
open Go.RowKit
set_option linter.unusedVariables false

/-- A move that is written: its kind, who does it, its call's kind, end, value and start, how much time. -/
structure CM where
  k : Int
  who : Int
  ck : Int
  ce : Int
  v : Int
  st : Int
  n : Int
def CM.beg (m : CM) : Prop := m.k = 0 ∧ 0 ≤ m.who ∧ m.who < 64 ∧ m.n = 0 ∧ (m.ce = 0 ∨ m.ce = 1) ∧ ((m.ck = 0 ∧ m.st = 0) ∨ (m.ck = 1 ∧ m.v = 0 ∧ 0 ≤ m.st ∧ m.st ≤ 255))
def CM.stp (m : CM) : Prop := m.k = 1 ∧ 0 ≤ m.who ∧ m.who < 64 ∧ m.ck = 0 ∧ m.ce = 0 ∧ m.v = 0 ∧ m.st = 0 ∧ m.n = 0
def CM.pas (m : CM) : Prop := m.k = 2 ∧ m.who = 0 ∧ m.ck = 0 ∧ m.ce = 0 ∧ m.v = 0 ∧ m.st = 0 ∧ 1 ≤ m.n ∧ m.n ≤ 65535
/-- Can it be written? -/
def CM.Right (m : CM) : Prop := m.beg ∨ m.stp ∨ m.pas
/-- Its value is a number of 64 bits. -/
def CM.Fit (m : CM) : Prop := 0 ≤ m.v ∧ m.v ≤ 18446744073709551615
def CM.Good (m : CM) : Prop := m.Right ∧ m.Fit

/-- A number in so many bytes, the lowest one first. -/
def le8 : Nat → Int → List Int
  | 0, _ => []
  | n + 1, x => x % 256 :: le8 n (x / 256)
def un8 : List Int → Int
  | [] => 0
  | b :: l => b + 256 * un8 l
theorem le8_len : ∀ (n : Nat) (x : Int), (le8 n x).length = n
  | 0, _ => rfl
  | n + 1, x => by rw [le8, List.length_cons, le8_len]
theorem le8_at : ∀ (n i : Nat) (x : Int), i < n → (le8 n x)[i]? = some (x / 256 ^ i % 256)
  | 0, i, x, h => by omega
  | n + 1, 0, x, h => by rw [le8, List.getElem?_cons_zero, Int.pow_zero, Int.ediv_one]
  | n + 1, i + 1, x, h => by
    rw [le8, List.getElem?_cons_succ, le8_at n i _ (by omega), Int.pow_succ, Int.mul_comm, Int.ediv_ediv_of_nonneg (by omega)]
theorem le8_snoc : ∀ (n : Nat) (x : Int), le8 (n + 1) x = le8 n x ++ [x / 256 ^ n % 256]
  | 0, x => by rw [le8, le8, le8, List.nil_append, Int.pow_zero, Int.ediv_one]
  | n + 1, x => by
    rw [le8, le8_snoc n (x / 256), le8, List.cons_append, Int.pow_succ, Int.mul_comm, Int.ediv_ediv_of_nonneg (by omega)]
theorem le8_byte : ∀ (n : Nat) (x : Int), ∀ b ∈ le8 n x, 0 ≤ b ∧ b ≤ 255
  | 0, _, b, h => by cases h
  | n + 1, x, b, h => by
    rw [le8, List.mem_cons] at h
    rcases h with rfl | h
    · omega
    · exact le8_byte n _ b h
theorem un8_le8 : ∀ (n : Nat) (x : Int), 0 ≤ x → x < 256 ^ n → un8 (le8 n x) = x
  | 0, x, h0, h1 => by
    rw [Int.pow_zero] at h1
    rw [le8, un8]
    omega
  | n + 1, x, h0, h1 => by
    rw [Int.pow_succ] at h1
    rw [le8, un8, un8_le8 n (x / 256) (by omega) (by omega)]
    omega
theorem le8_un8 : ∀ (l : List Int), (∀ b ∈ l, 0 ≤ b ∧ b ≤ 255) → le8 l.length (un8 l) = l
  | [], _ => rfl
  | b :: l, h => by
    have hb := h b List.mem_cons_self
    rw [List.length_cons, le8, un8, show (b + 256 * un8 l) % 256 = b by omega, show (b + 256 * un8 l) / 256 = un8 l by omega, le8_un8 l (fun c hc => h c (List.mem_cons_of_mem _ hc))]
theorem un8_fit : ∀ (l : List Int), (∀ b ∈ l, 0 ≤ b ∧ b ≤ 255) → 0 ≤ un8 l ∧ un8 l < 256 ^ l.length
  | [], _ => by rw [un8, List.length_nil, Int.pow_zero]; omega
  | b :: l, h => by
    have hb := h b List.mem_cons_self
    have ih := un8_fit l (fun c hc => h c (List.mem_cons_of_mem _ hc))
    rw [un8, List.length_cons, Int.pow_succ]
    omega
theorem le8_inj {n : Nat} {x y : Int} (x0 : 0 ≤ x) (x1 : x < 256 ^ n) (y0 : 0 ≤ y) (y1 : y < 256 ^ n) (h : le8 n x = le8 n y) : x = y := by
  rw [← un8_le8 n x x0 x1, h, un8_le8 n y y0 y1]
theorem un8_take_succ : ∀ (l : List Int) (i : Nat) (b : Int), l[i]? = some b → un8 (l.take (i + 1)) = un8 (l.take i) + b * 256 ^ i
  | [], i, b, h => by simp at h
  | c :: l, 0, b, h => by
    cases h
    show c + 256 * un8 [] = un8 [] + c * 256 ^ 0
    have h0 : un8 [] = 0 := rfl
    rw [h0, Int.pow_zero]
    omega
  | c :: l, i + 1, b, h => by
    rw [List.getElem?_cons_succ] at h
    rw [List.take_succ_cons, List.take_succ_cons, un8, un8, un8_take_succ l i b h, Int.pow_succ, Int.mul_add, Int.mul_comm (256 ^ i) 256, ← Int.mul_assoc, ← Int.mul_assoc, Int.mul_comm b 256]
    omega

/-- A move's bytes. -/
def CM.enc (m : CM) : List Int :=
  if m.k = 1 then [1, m.who] else if m.k = 2 then 2 :: le8 2 m.n else 0 :: m.who :: (m.ck + 2 * m.ce) :: (if m.ck = 0 then le8 8 m.v else [m.st])
def encs : List CM → List Int
  | [] => []
  | m :: l => m.enc ++ encs l
theorem encs_append : ∀ a b : List CM, encs (a ++ b) = encs a ++ encs b
  | [], _ => rfl
  | m :: a, b => by rw [List.cons_append, encs, encs, encs_append a b, List.append_assoc]
theorem encs_snoc (a : List CM) (m : CM) : encs (a ++ [m]) = encs a ++ m.enc := by rw [encs_append, encs, encs, List.append_nil]
theorem enc_len (m : CM) : 2 ≤ m.enc.length ∧ m.enc.length ≤ 11 := by
  unfold CM.enc
  split
  · exact ⟨Nat.le_refl _, (by decide : 2 ≤ 11)⟩
  · split
    · rw [List.length_cons, le8_len]; omega
    · split
      · simp only [List.length_cons, le8_len]; omega
      · simp only [List.length_cons, List.length_nil]; omega
theorem encs_len : ∀ l : List CM, 2 * l.length ≤ (encs l).length ∧ (encs l).length ≤ 11 * l.length
  | [] => ⟨Nat.le_refl _, Nat.le_refl _⟩
  | m :: l => by
    have h1 := enc_len m
    have h2 := encs_len l
    rw [encs, List.length_append, List.length_cons]
    omega
theorem enc_byte {m : CM} (h : m.Right) : ∀ b ∈ m.enc, 0 ≤ b ∧ b ≤ 255 := by
  unfold CM.enc
  rcases h with h | h | h
  · obtain ⟨h1, h2, h3, h4, h5, h6⟩ := h
    rw [if_neg (by omega), if_neg (by omega)]
    intro b hb
    rw [List.mem_cons, List.mem_cons, List.mem_cons] at hb
    rcases hb with rfl | rfl | rfl | hb
    · omega
    · omega
    · omega
    · split at hb
      · exact le8_byte _ _ b hb
      · rw [List.mem_singleton] at hb
        omega
  · obtain ⟨h1, h2, h3, h4⟩ := h
    rw [if_pos h1]
    intro b hb
    simp only [List.mem_cons, List.not_mem_nil, or_false] at hb
    omega
  · obtain ⟨h1, h2⟩ := h
    rw [if_neg (by omega), if_pos h1]
    intro b hb
    rw [List.mem_cons] at hb
    rcases hb with rfl | hb
    · omega
    · exact le8_byte _ _ b hb
theorem encs_byte : ∀ {l : List CM}, (∀ m ∈ l, m.Right) → ∀ b ∈ encs l, 0 ≤ b ∧ b ≤ 255
  | [], _, b, h => by cases h
  | m :: l, hl, b, h => by
    rw [encs, List.mem_append] at h
    rcases h with h | h
    · exact enc_byte (hl m List.mem_cons_self) b h
    · exact encs_byte (fun x hx => hl x (List.mem_cons_of_mem _ hx)) b h

/-- No move's bytes begin another one's. -/
theorem enc_inj {m m' : CM} {r r' : List Int} (h : m.Good) (h' : m'.Good) (he : m.enc ++ r = m'.enc ++ r') : m = m' ∧ r = r' := by
  have key : ∀ {a a' : CM}, a.Good → a'.Good → a.k = a'.k → ∀ s s', a.enc ++ s = a'.enc ++ s' → a = a' ∧ s = s' := by
    intro a a' g g' hk s s' e
    obtain ⟨k, who, ck, ce, v, st, n⟩ := a
    obtain ⟨k', who', ck', ce', v', st', n'⟩ := a'
    have hk2 : k = k' := hk
    subst hk2
    obtain ⟨gr, v0, v1⟩ := g
    obtain ⟨gr', v0', v1'⟩ := g'
    simp only at v0 v1 v0' v1'
    unfold CM.Right CM.beg CM.stp CM.pas at gr gr'
    simp only at gr gr'
    unfold CM.enc at e
    simp only at e
    by_cases k1 : k = 1
    · rw [if_pos k1, if_pos k1] at e
      simp only [List.cons_append, List.nil_append, List.cons.injEq, true_and] at e
      obtain ⟨e1, e2⟩ := e
      exact ⟨by rw [CM.mk.injEq]; omega, e2⟩
    · rw [if_neg k1, if_neg k1] at e
      by_cases k2 : k = 2
      · rw [if_pos k2, if_pos k2, List.cons_append, List.cons_append, List.cons.injEq] at e
        obtain ⟨e1, e2⟩ := List.append_inj e.2 (by rw [le8_len, le8_len])
        have := le8_inj (n := 2) (by omega) (by have : (256 : Int) ^ 2 = 65536 := by decide
                                                omega) (by omega) (by have : (256 : Int) ^ 2 = 65536 := by decide
                                                                      omega) e1
        exact ⟨by rw [CM.mk.injEq]; omega, e2⟩
      · rw [if_neg k2, if_neg k2] at e
        simp only [List.cons_append, List.cons.injEq, true_and] at e
        obtain ⟨e1, e2, e3⟩ := e
        have hck : ck = ck' := by omega
        have hce : ce = ce' := by omega
        subst hck hce
        by_cases c0 : ck = 0
        · rw [if_pos c0, if_pos c0] at e3
          obtain ⟨e4, e5⟩ := List.append_inj e3 (by rw [le8_len, le8_len])
          have h256 : (256 : Int) ^ 8 = 18446744073709551616 := by decide
          have := le8_inj (n := 8) v0 (by omega) v0' (by omega) e4
          exact ⟨by rw [CM.mk.injEq]; omega, e5⟩
        · rw [if_neg c0, if_neg c0, List.cons_append, List.cons_append, List.cons.injEq] at e3
          exact ⟨by rw [CM.mk.injEq]; omega, e3.2⟩
  have first : ∀ {a : CM}, a.Good → ∀ s, (a.enc ++ s)[0]? = some a.k := by
    intro a g s
    have hr := g.1
    unfold CM.enc
    split
    · rename_i h1
      rw [h1]
      rfl
    · split
      · rename_i h1
        rw [h1]
        rfl
      · rename_i h1 h2
        have : a.k = 0 := by
          rcases hr with hr | hr | hr
          · exact hr.1
          · exact absurd hr.1 h1
          · exact absurd hr.1 h2
        rw [this]
        rfl
  have h1 := first h r
  rw [he, first h' r', Option.some.injEq] at h1
  exact key h h' h1.symm r r' he
/-- Of two rows of moves in the same bytes one begins with the other. -/
theorem encs_cmp : ∀ {a b : List CM} {r s : List Int}, (∀ m ∈ a, m.Good) → (∀ m ∈ b, m.Good) → encs a ++ r = encs b ++ s → (∃ d, b = a ++ d ∧ r = encs d ++ s) ∨ (∃ d, a = b ++ d ∧ s = encs d ++ r)
  | [], b, r, s, _, _, h => .inl ⟨b, rfl, h⟩
  | m :: a, [], r, s, _, _, h => .inr ⟨m :: a, rfl, h.symm⟩
  | m :: a, m' :: b, r, s, ha, hb, h => by
    rw [encs, encs, List.append_assoc, List.append_assoc] at h
    obtain ⟨rfl, h2⟩ := enc_inj (ha m List.mem_cons_self) (hb m' List.mem_cons_self) h
    rcases encs_cmp (fun x hx => ha x (List.mem_cons_of_mem _ hx)) (fun x hx => hb x (List.mem_cons_of_mem _ hx)) h2 with ⟨d, rfl, e⟩ | ⟨d, rfl, e⟩
    · exact .inl ⟨d, rfl, e⟩
    · exact .inr ⟨d, rfl, e⟩
theorem encs_inj {a b : List CM} (ha : ∀ m ∈ a, m.Good) (hb : ∀ m ∈ b, m.Good) (h : encs a = encs b) : a = b := by
  have h' : encs a ++ [] = encs b ++ [] := by rw [h]
  rcases encs_cmp ha hb h' with ⟨d, rfl, e⟩ | ⟨d, rfl, e⟩
  all_goals
    rw [List.append_nil] at e
    have hd := encs_len d
    rw [← e, List.length_nil] at hd
    have : d = [] := List.eq_nil_of_length_eq_zero (by omega)
    rw [this, List.append_nil]

/-- What bytes behind a script's head are: these moves; or where they are none. -/
inductive DecIs (l : List Int) : List CM → Int → Int → Prop
  | ok (ms : List CM) (hr : ∀ m ∈ ms, m.Good) (hn : ms.length ≤ 65536) (h : l = encs ms) : DecIs l ms l.length 0
  | form (ms : List CM) (r : List Int) (hr : ∀ m ∈ ms, m.Good) (hn : ms.length ≤ 65536) (h : l = encs ms ++ r) (h0 : r ≠ []) (hno : ∀ (m : CM) (r' : List Int), m.Good → r ≠ m.enc ++ r') : DecIs l [] (encs ms).length 3
  | many (ms : List CM) (m : CM) (r : List Int) (hr : ∀ m ∈ ms, m.Good) (hn : ms.length = 65536) (h : l = encs ms ++ (m.enc ++ r)) (hm : m.Good) : DecIs l [] (encs ms).length 7
/-- Bytes of moves are these, if they aren't too many. -/
theorem DecIs.of {a b : List CM} {n e : Int} (ha : ∀ m ∈ a, m.Good) (hn : a.length ≤ 65536) (h : DecIs (encs a) b n e) : b = a ∧ n = ((encs a).length : Int) ∧ e = 0 := by
  cases h with
  | ok _ hr hm h => exact ⟨encs_inj hr ha h.symm, rfl, rfl⟩
  | form ms r hr hm h h0 hno =>
    have h' : encs a ++ [] = encs ms ++ r := by rw [List.append_nil]; exact h
    rcases encs_cmp ha hr h' with ⟨d, rfl, e⟩ | ⟨d, rfl, e⟩
    · have := congrArg List.length e
      rw [List.length_nil, List.length_append] at this
      exact absurd (List.eq_nil_of_length_eq_zero (by omega)) h0
    · rw [List.append_nil] at e
      cases d with
      | nil => exact absurd e h0
      | cons m d => exact absurd e (hno m _ (ha m (List.mem_append_right _ List.mem_cons_self)))
  | many ms m r hr hm h hg =>
    have h' : encs a ++ [] = encs ms ++ (m.enc ++ r) := by rw [List.append_nil]; exact h
    have hl := enc_len m
    rcases encs_cmp ha hr h' with ⟨d, rfl, e⟩ | ⟨d, rfl, e⟩
    · have := congrArg List.length e
      rw [List.length_nil, List.length_append, List.length_append] at this
      omega
    · rw [List.append_nil] at e
      rw [List.length_append] at hn
      have : d = [] := List.eq_nil_of_length_eq_zero (by omega)
      subst this
      have := congrArg List.length e
      rw [show encs [] = [] from rfl, List.length_nil, List.length_append] at this
      omega
end Go.Proofs.Ytebgjfhaolgcjaa
