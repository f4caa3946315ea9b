/-
  The contract of Step of package take, as one function on data; and what a call holds that has cells and a take. No condition but that numbers fit their kinds, and that the place is one of the layout's.
-/
import Derived.Test.YticphioeipbnmaaTakeCalls
namespace Go.Proofs.Yticphioeipbnmaa
open Go.RowKit
set_option linter.unusedVariables false

/-- A take under way. -/
structure Ta where
  t : Int
  s : Int
  so : Int
  d : Int
  who : Int
  slot : Int
  word : Int
  next : Int
  value : Int
  lost : Bool
  ph : Int

abbrev Ta.list (k : Ta) : List Value := taL k.t k.s k.so k.d k.who k.slot k.word k.next k.value k.lost k.ph
/-- As it begins. -/
def ta0 (t s so d who slot word : Int) : Ta := ⟨t, s, so, d, who, slot, word, 0, 0, false, 0⟩

/-- A step: j, jv, hz are the place's Word, its Value, the thread's Hazard. -/
def Ta.go (k : Ta) (j jv : Nat) (C : List Int) : Ta :=
  if k.ph ≠ 0 then k else if k.next = 0 then { k with next := 1 } else if k.next = 1 then (if C.getD j 0 = k.word then { k with next := 2 } else { k with next := 4, lost := true })
  else if k.next = 2 then { k with value := C.getD jv 0, next := 3 } else if k.next = 3 then (if C.getD j 0 = k.word then { k with next := 4 } else { k with next := 4, lost := true })
  else if k.lost = true then { k with ph := 2 } else { k with next := 5, ph := 1 }
def Ta.cells (k : Ta) (j hz : Nat) (C : List Int) : List Int :=
  if k.ph ≠ 0 then C else if k.next = 0 then C.set hz (k.slot + 1) else if k.next = 1 then C else if k.next = 2 then C else if k.next = 3 then (if C.getD j 0 = k.word then C.set j (tkW k.word) else C) else C.set hz 0
def Ta.ev (k : Ta) (j jv hz : Nat) (C : List Int) : List Ev :=
  if k.ph ≠ 0 then [] else if k.next = 0 then [⟨k.who, 1, hz, C.getD hz 0, k.slot + 1, true⟩] else if k.next = 1 then [⟨k.who, 0, j, C.getD j 0, C.getD j 0, true⟩]
  else if k.next = 2 then [⟨k.who, 0, jv, C.getD jv 0, C.getD jv 0, true⟩] else if k.next = 3 then (if C.getD j 0 = k.word then [⟨k.who, 2, j, k.word, tkW k.word, true⟩] else [⟨k.who, 2, j, C.getD j 0, C.getD j 0, false⟩])
  else [⟨k.who, 1, hz, C.getD hz 0, 0, true⟩]

structure Ta.Ok (k : Ta) (n : Int) (j jv hz : Nat) (C : List Int) : Prop where
  lay : Lay k.t k.s n
  len : (C.length : Int) = 2 * n + 2 * k.t
  w0 : 0 ≤ k.who
  w1 : k.who < k.t
  s0 : 0 ≤ k.slot
  s1 : k.slot < n
  hj : k.slot = (j : Int)
  hjv : n + k.slot = (jv : Int)
  hhz : 2 * n + k.who = (hz : Int)
  x0 : 0 ≤ k.word
  x1 : k.word ≤ 18446744073709551615
  st : k.ph = 0 → (k.next = 0 ∧ k.lost = false) ∨ (k.next = 1 ∧ k.lost = false) ∨ (k.next = 2 ∧ k.lost = false) ∨ (k.next = 3 ∧ k.lost = false) ∨ k.next = 4

theorem getD_in {C : List Int} {i : Nat} (h : i < C.length) : C[i]? = some (C.getD i 0) := by
  rw [List.getD_eq_getElem?_getD, List.getElem?_eq_getElem h]
  rfl

section
variable (base : Nat) (w : World) (b p c : Nat) (v : Value) (C : List Int) (L : List Ev) (k : Ta) (n : Int) (j jv hz : Nat)

theorem tastep_any (hk : k.Ok n j jv hz C) (hT : IsObj w b k.list) (hM : IsMem base w p c v C L) (ha : ¬ Foot p c v b) (hb : base ≤ w.heap.size) (hL : L.length < 1000000000) :
    Calls Try.prog 23 #[pt b, pt p] w (TaPost base w b p c v (k.go j jv C).list (k.cells j hz C) (L ++ k.ev j jv hz C) (.returned (i64 (k.go j jv C).ph))) := by
  obtain ⟨hl, hlen, w0, w1, s0, s1, hj, hjv, hhz, x0, x1, st⟩ := hk
  have hn1 := hl.n1; have ht1 := hl.t1
  have g1 : C[j]? = some (C.getD j 0) := getD_in (by omega)
  have g2 : C[jv]? = some (C.getD jv 0) := getD_in (by omega)
  have g3 : C[hz]? = some (C.getD hz 0) := getD_in (by omega)
  unfold Ta.go Ta.cells Ta.ev
  by_cases hp : k.ph ≠ 0
  · rw [if_pos hp, if_pos hp, if_pos hp, List.append_nil]
    exact take_rest base w b p c v C L k.t k.s k.so k.d k.who k.slot k.word k.value k.next k.ph k.lost hp hT hM ha hb
  · rw [if_neg hp, if_neg hp, if_neg hp]
    have hp0 : k.ph = 0 := Classical.not_not.1 hp
    rcases st hp0 with ⟨h, hlo⟩ | ⟨h, hlo⟩ | ⟨h, hlo⟩ | ⟨h, hlo⟩ | h
    · rw [if_pos h, if_pos h, if_pos h]
      unfold Ta.list at hT ⊢
      rw [h, hlo, hp0] at hT
      simp only [hlo, hp0]
      exact take_0 base w b p c v C L k.t k.s k.so k.d k.who k.slot k.word k.value n hz hhz _ g3 hT hl w0 w1 s0 s1 x0 x1 hM ha hb hL
    · have h0 : ¬ k.next = 0 := by omega
      rw [if_neg h0, if_neg h0, if_neg h0, if_pos h, if_pos h, if_pos h]
      unfold Ta.list at hT ⊢
      rw [h, hlo, hp0] at hT
      by_cases hw : C.getD j 0 = k.word
      · rw [if_pos hw]
        simp only [hlo, hp0]
        exact take_1same base w b p c v C L k.t k.s k.so k.d k.who k.slot k.word k.value n j hj _ g1 hw hT hl w0 w1 s0 s1 x0 x1 hM ha hb hL
      · rw [if_neg hw]
        simp only [hp0]
        exact take_1other base w b p c v C L k.t k.s k.so k.d k.who k.slot k.word k.value n j hj _ g1 hw hT hl w0 w1 s0 s1 x0 x1 hM ha hb hL
    · have h0 : ¬ k.next = 0 := by omega
      have h1 : ¬ k.next = 1 := by omega
      rw [if_neg h0, if_neg h0, if_neg h0, if_neg h1, if_neg h1, if_neg h1, if_pos h, if_pos h, if_pos h]
      unfold Ta.list at hT ⊢
      rw [h, hlo, hp0] at hT
      simp only [hlo, hp0]
      exact take_2 base w b p c v C L k.t k.s k.so k.d k.who k.slot k.word k.value n jv hjv _ g2 hT hl w0 w1 s0 s1 x0 x1 hM ha hb hL
    · have h0 : ¬ k.next = 0 := by omega
      have h1 : ¬ k.next = 1 := by omega
      have h2 : ¬ k.next = 2 := by omega
      rw [if_neg h0, if_neg h0, if_neg h0, if_neg h1, if_neg h1, if_neg h1, if_neg h2, if_neg h2, if_neg h2, if_pos h, if_pos h, if_pos h]
      unfold Ta.list at hT ⊢
      rw [h, hlo, hp0] at hT
      by_cases hw : C.getD j 0 = k.word
      · rw [if_pos hw, if_pos hw, if_pos hw]
        simp only [hlo, hp0]
        exact take_3same base w b p c v C L k.t k.s k.so k.d k.who k.slot k.word k.value n j hj (hw ▸ g1) hT hl w0 w1 s0 s1 x0 x1 hM ha hb hL
      · rw [if_neg hw, if_neg hw, if_neg hw]
        simp only [hp0]
        exact take_3other base w b p c v C L k.t k.s k.so k.d k.who k.slot k.word k.value n j hj _ g1 hw hT hl w0 w1 s0 s1 x0 x1 hM ha hb hL
    · have h0 : ¬ k.next = 0 := by omega
      have h1 : ¬ k.next = 1 := by omega
      have h2 : ¬ k.next = 2 := by omega
      have h3 : ¬ k.next = 3 := by omega
      rw [if_neg h0, if_neg h0, if_neg h0, if_neg h1, if_neg h1, if_neg h1, if_neg h2, if_neg h2, if_neg h2, if_neg h3, if_neg h3, if_neg h3]
      unfold Ta.list at hT ⊢
      rw [h, hp0] at hT
      cases hlo : k.lost with
      | false =>
        rw [hlo] at hT
        simp only [Bool.false_eq_true, if_false]
        exact take_4false base w b p c v C L k.t k.s k.so k.d k.who k.slot k.word k.value n hz hhz _ g3 hT hl w0 w1 s0 s1 x0 x1 hM ha hb hL
      | true =>
        rw [hlo] at hT
        simp only [h, if_true]
        exact take_4true base w b p c v C L k.t k.s k.so k.d k.who k.slot k.word k.value n hz hhz _ g3 hT hl w0 w1 s0 s1 x0 x1 hM ha hb hL
end

/-- Cells, a take, and what else the call holds. -/
def TaHold (W w : World) (p c : Nat) (v : Value) (C : List Int) (L : List Ev) (b : Nat) (k : Ta) (R : List Thing) : Prop :=
  Hold W w (tMem W.heap.size p c v C L :: tObj W.heap.size b k.list :: R)

section
variable {W w w' : World} {p c b : Nat} {v v' : Value} {C C' : List Int} {L L' : List Ev} {k k' : Ta} {R : List Thing}
theorem TaHold.mem (h : TaHold W w p c v C L b k R) : IsMem W.heap.size w p c v C L := Hold.has h 0 _ rfl
theorem TaHold.obj (h : TaHold W w p c v C L b k R) : IsObj w b k.list := (Hold.has h 1 _ rfl).1
theorem TaHold.later (h : TaHold W w p c v C L b k R) (e : Below w.heap.size w w') : TaHold W w' p c v C L b k R := Hold.later h e
theorem TaHold.size (h : TaHold W w p c v C L b k R) : W.heap.size ≤ w.heap.size := Hold.size h
theorem TaHold.below (h : TaHold W w p c v C L b k R) : Below W.heap.size W w := Hold.below h
theorem TaHold.store (h : TaHold W w p c v C L b k R) (t : Touched W.heap.size w w' p c v v' C' L') : TaHold W w' p c v' C' L' b k R := Hold.mem h 0 rfl t
/-- A step. -/
theorem TaHold.call {n : Int} {j jv hz : Nat} (h : TaHold W w p c v C L b k R) (hk : k.Ok n j jv hz C) (hL : L.length < 1000000000) :
    Calls Try.prog 23 #[pt b, pt p] w fun r w' => r = .returned (i64 (k.go j jv C).ph) ∧ ∃ v', TaHold W w' p c v' (k.cells j hz C) (L ++ k.ev j jv hz C) b (k.go j jv C) R :=
  (tastep_any W.heap.size w b p c v C L k n j jv hz hk h.obj h.mem (Hold.free h 0 1 (by decide) rfl rfl b rfl) h.size hL).mono fun r w' ⟨hr, v', hd, hs⟩ =>
    ⟨hr, v', Hold.does h 0 1 (by decide) rfl rfl hd (tObj_ok _ _ _) ⟨hs, (Hold.has h 1 _ rfl).2⟩ (fun q hq => hq)⟩
theorem TaHold.begun (h : Hold W w (tMem W.heap.size p c v C L :: [])) (e : Below w.heap.size w w') (hk : IsObj w' b k.list) (hb : w.heap.size ≤ b) : TaHold W w' p c v C L b k [] :=
  Hold.more h e (tObj_ok _ _ _) ⟨hk, Nat.le_trans h.size hb⟩ (fun q hq => by cases hq; exact hb)
end

theorem Ta.ev_le (k : Ta) (j jv hz : Nat) (C : List Int) : (k.ev j jv hz C).length ≤ 1 := by
  unfold Ta.ev
  repeat' split
  all_goals simp
theorem Ta.cells_len (k : Ta) (j hz : Nat) (C : List Int) : (k.cells j hz C).length = C.length := by
  unfold Ta.cells
  repeat' split
  all_goals simp

/-- What never turns. -/
structure Ta.Same (k k' : Ta) : Prop where
  t : k'.t = k.t
  s : k'.s = k.s
  who : k'.who = k.who
  slot : k'.slot = k.slot
  word : k'.word = k.word
theorem Ta.go_same (k : Ta) (j jv : Nat) (C : List Int) : k.Same (k.go j jv C) := by
  unfold Ta.go
  repeat' split
  all_goals exact ⟨rfl, rfl, rfl, rfl, rfl⟩
theorem Ta.Same.trans {a b c : Ta} (h : a.Same b) (k : b.Same c) : a.Same c := ⟨k.t.trans h.t, k.s.trans h.s, k.who.trans h.who, k.slot.trans h.slot, k.word.trans h.word⟩
/-- A step leaves what is right right. -/
theorem Ta.Ok.next {k : Ta} {n : Int} {j jv hz : Nat} {C C' : List Int} (h : k.Ok n j jv hz C) (hC : C'.length = C.length) : (k.go j jv C).Ok n j jv hz C' := by
  have e := k.go_same j jv C
  obtain ⟨e1, e2, e3, e4, e5⟩ := e
  refine ⟨by rw [e1, e2]; exact h.lay, by rw [hC, e1]; exact h.len, by rw [e3]; exact h.w0, by rw [e3, e1]; exact h.w1, by rw [e4]; exact h.s0, by rw [e4]; exact h.s1, by rw [e4]; exact h.hj, by rw [e4]; exact h.hjv, by rw [e3]; exact h.hhz, by rw [e5]; exact h.x0, by rw [e5]; exact h.x1, fun hp => ?_⟩
  have st := h.st
  unfold Ta.go at hp ⊢
  by_cases h0 : k.ph ≠ 0
  · rw [if_pos h0] at hp
    exact absurd hp h0
  · rw [if_neg h0] at hp ⊢
    rcases st (Classical.not_not.1 h0) with ⟨a, b⟩ | ⟨a, b⟩ | ⟨a, b⟩ | ⟨a, b⟩ | a
    · rw [if_pos a] at hp ⊢
      exact .inr (.inl ⟨rfl, b⟩)
    · rw [if_neg (by omega), if_pos a] at hp ⊢
      split
      · exact .inr (.inr (.inl ⟨rfl, b⟩))
      · exact .inr (.inr (.inr (.inr rfl)))
    · rw [if_neg (by omega), if_neg (by omega), if_pos a] at hp ⊢
      exact .inr (.inr (.inr (.inl ⟨rfl, b⟩)))
    · rw [if_neg (by omega), if_neg (by omega), if_neg (by omega), if_pos a] at hp ⊢
      split <;> exact .inr (.inr (.inr (.inr rfl)))
    · rw [if_neg (by omega), if_neg (by omega), if_neg (by omega), if_neg (by omega)] at hp
      split at hp <;> cases hp

end Go.Proofs.Yticphioeipbnmaa
