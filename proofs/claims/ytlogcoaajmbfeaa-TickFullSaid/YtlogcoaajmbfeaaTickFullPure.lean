/-
  Plain lemmas on stamps near the end of all numbers. No condition.
-/
import Derived.Test.YtlogcoaajmbfeaaWalkTickMost
namespace Go.Proofs.Ytlogcoaajmbfeaa
open Go.RowKit
set_option linter.unusedVariables false

theorem stp_steps (nb : Nat) (k : Tk) (C : List Int) (now : Int) : (stp nb k C now).1.steps ≤ k.steps + 1 := by
  unfold stp
  repeat' split
  all_goals first | (simp only [fin_steps]; omega) | (simp only; omega)

/-- Steps of one stamp, one behind the other. -/
def itr (nb : Nat) : Nat → Tk × List Int → Tk × List Int
  | 0, s => s
  | j + 1, s => ((stp nb (itr nb j s).1 (itr nb j s).2 0).1, (stp nb (itr nb j s).1 (itr nb j s).2 0).2.1)

theorem itr_add (nb : Nat) (a : Nat) : ∀ (b : Nat) (s : Tk × List Int), itr nb (a + b) s = itr nb b (itr nb a s)
  | 0, s => rfl
  | b + 1, s => by
    show ((stp nb (itr nb (a + b) s).1 (itr nb (a + b) s).2 0).1, (stp nb (itr nb (a + b) s).1 (itr nb (a + b) s).2 0).2.1) = _
    rw [itr_add nb a b s]
    rfl
theorem stp_stay (nb : Nat) (k : Tk) (C : List Int) (now : Int) (h : k.ph ≠ 0) : stp nb k C now = (k, C, none) := by
  unfold stp
  rw [if_neg h]
theorem itr_stay (nb : Nat) (s : Tk × List Int) (h : s.1.ph ≠ 0) : ∀ j, itr nb j s = s
  | 0 => rfl
  | j + 1 => by
    show ((stp nb (itr nb j s).1 (itr nb j s).2 0).1, (stp nb (itr nb j s).1 (itr nb j s).2 0).2.1) = s
    rw [itr_stay nb s h j, stp_stay nb s.1 s.2 0 h]

/-- The greatest number of Stutter's cells behind n stamps. -/
def gtop (gap n : Int) : Int := if gap = 0 then 16777215 else 16777215 - gap + min n (gap - 1)

/-- The cells behind n stamps near the end. -/
structure Near (nb : Nat) (T so who gap n : Int) (C : List Int) : Prop where
  len : C.length = nb + T.toNat
  zero : so = 0 → C.getD nb 0 = 16777215 - gap + n
  two : so = 2 → C.getD nb 0 = min 16777215 (16777215 - gap + n)
  one : so = 1 → C.getD (nb + who.toNat) 0 = gtop gap n ∧ ∀ j : Nat, (j : Int) < T → 0 ≤ C.getD (nb + j) 0 ∧ C.getD (nb + j) 0 ≤ gtop gap n

/-- How many stamps there are still. -/
def good (so gap : Int) : Int := if so = 1 then gap - 1 else gap

/-- What a stamp near the end comes to. -/
def NearPost (nb : Nat) (T so who gap n : Int) (k : Tk) (C : List Int) : Prop :=
  (n < good so gap → k.ph = 1) ∧ (¬ n < good so gap → k.ph = 2 ∧ k.lo = 0 ∧ k.hi = 0) ∧ Near nb T so who gap (n + 1) C

theorem near_loads {nb : Nat} {T who gap n : Int} {C : List Int} (h : Near nb T 1 who gap n C) (w0 : 0 ≤ who) (w1 : who < T) (t1 : 1 ≤ T) (t2 : T ≤ 4) (hg : 0 ≤ gtop gap n ∧ gtop gap n ≤ 16777215) :
    ∀ j : Nat, (j : Int) ≤ T → ∃ x : Int, itr nb j (tk0 T 1 1 0 who, C) = (⟨T, 1, 1, 0, who, j, x, 0, 0, 0⟩, C) ∧ 0 ≤ x ∧ x ≤ gtop gap n ∧ (who < j → x = gtop gap n)
  | 0, _ => ⟨0, rfl, Int.le_refl _, hg.1, fun h => by omega⟩
  | j + 1, hj => by
    obtain ⟨x, hx, x0, x1, x2⟩ := near_loads h w0 w1 t1 t2 hg j (by omega)
    obtain ⟨h1, h2⟩ := h.one rfl
    have hc := h2 j (by omega)
    have hl : low (C.getD (nb + j) 0) = C.getD (nb + j) 0 := by unfold low; omega
    refine ⟨max x (C.getD (nb + j) 0), ?_, by omega, by omega, fun hw => ?_⟩
    · show ((stp nb (itr nb j (tk0 T 1 1 0 who, C)).1 (itr nb j (tk0 T 1 1 0 who, C)).2 0).1, (stp nb (itr nb j (tk0 T 1 1 0 who, C)).1 (itr nb j (tk0 T 1 1 0 who, C)).2 0).2.1) = _
      rw [hx, stp_c1l rfl rfl (by show (j : Int) < T; omega)]
      simp only [Int.toNat_natCast, hl]
      rfl
    · by_cases hw2 : who < j
      · have := x2 hw2
        omega
      · have hwj : who.toNat = j := by omega
        rw [hwj] at h1
        omega

theorem near_round {nb : Nat} {T so who gap : Int} {n : Nat} {C : List Int} (h : Near nb T so who gap n C) (s0 : 0 ≤ so) (s2 : so ≤ 2) (w0 : 0 ≤ who) (w1 : who < T) (t1 : 1 ≤ T) (t2 : T ≤ 4) (g0 : 0 ≤ gap) (g3 : gap ≤ 3) (hn : n < 6) :
    NearPost nb T so who gap n (itr nb 10 (tk0 T 1 so 0 who, C)).1 (itr nb 10 (tk0 T 1 so 0 who, C)).2 := by
  have hlen := h.len
  rcases (by omega : so = 0 ∨ so = 1 ∨ so = 2) with rfl | rfl | rfl
  · have hz := h.zero rfl
    rw [show (10 : Nat) = 1 + 9 from rfl, itr_add]
    have h1 : itr nb 1 (tk0 T 1 0 0 who, C) = (fin { tk0 T 1 0 0 who with steps := 1 } (low (C.getD nb 0)) (low (C.getD nb 0)), C.set nb (add64 (C.getD nb 0) 1)) := by
      show ((stp nb (tk0 T 1 0 0 who) C 0).1, (stp nb (tk0 T 1 0 0 who) C 0).2.1) = _
      rw [stp_c0 rfl rfl]
      rfl
    have ha : add64 (C.getD nb 0) 1 = 16777215 - gap + (n + 1) := by unfold add64; rw [IntKind.wrap_u64]; omega
    have hN : Near nb T 0 who gap (n + 1) (C.set nb (add64 (C.getD nb 0) 1)) := ⟨by rw [List.length_set]; exact hlen, (fun _ => by rw [getD_set', if_pos ⟨rfl, by omega⟩]; exact ha), (fun h => by cases h), (fun h => by cases h)⟩
    by_cases hlt : (n : Int) < gap
    · have hl : low (C.getD nb 0) = 16777215 - gap + n := by unfold low; omega
      rw [hl, fin_yes' _ (by omega)] at h1
      rw [h1, itr_stay _ _ (by show (1 : Int) ≠ 0; decide)]
      exact ⟨fun _ => rfl, fun h => absurd hlt h, hN⟩
    · have hl : low (C.getD nb 0) = 16777215 := by unfold low; omega
      rw [hl, show fin { tk0 T 1 0 0 who with steps := 1 } 16777215 16777215 = { tk0 T 1 0 0 who with steps := 1, ph := 2 } from if_neg (by omega)] at h1
      rw [h1, itr_stay _ _ (by show (2 : Int) ≠ 0; decide)]
      exact ⟨fun h => absurd h hlt, fun _ => ⟨rfl, rfl, rfl⟩, hN⟩
  · have hg : 0 ≤ gtop gap n ∧ gtop gap n ≤ 16777215 := by unfold gtop; split <;> omega
    obtain ⟨x, hx, x0, x1, x2⟩ := near_loads h w0 w1 t1 t2 hg T.toNat (by omega)
    obtain rfl : x = gtop gap n := x2 (by omega)
    obtain ⟨m, hm⟩ : ∃ m : Nat, 10 = (T.toNat + 1) + m := ⟨9 - T.toNat, by omega⟩
    obtain ⟨h1, h2⟩ := h.one rfl
    rw [hm, itr_add]
    have h1' : itr nb (T.toNat + 1) (tk0 T 1 1 0 who, C) = ((stp nb ⟨T, 1, 1, 0, who, (T.toNat : Nat), gtop gap n, 0, 0, 0⟩ C 0).1, (stp nb ⟨T, 1, 1, 0, who, (T.toNat : Nat), gtop gap n, 0, 0, 0⟩ C 0).2.1) := by
      show ((stp nb (itr nb T.toNat (tk0 T 1 1 0 who, C)).1 (itr nb T.toNat (tk0 T 1 1 0 who, C)).2 0).1, (stp nb (itr nb T.toNat (tk0 T 1 1 0 who, C)).1 (itr nb T.toNat (tk0 T 1 1 0 who, C)).2 0).2.1) = _
      rw [hx]
    by_cases hlt : (n : Int) < gap - 1
    · have hgt : gtop gap n + 1 = gtop gap (n + 1) := by unfold gtop; rw [if_neg (by omega), if_neg (by omega)]; omega
      have hgl : gtop gap n + 1 < 16777215 := by unfold gtop; rw [if_neg (by omega)]; omega
      rw [stp_c1d rfl rfl (by show ¬ ((T.toNat : Nat) : Int) < T; omega) hgl] at h1'
      rw [h1', itr_stay _ _ (by show (1 : Int) ≠ 0; decide)]
      refine ⟨fun _ => rfl, fun h => absurd (show (n : Int) < good 1 gap from hlt) h, ⟨by rw [List.length_set]; exact hlen, (fun h => by cases h), (fun h => by cases h), fun _ => ⟨by rw [getD_set', if_pos ⟨rfl, by omega⟩, hgt], fun j hj => ?_⟩⟩⟩
      rw [getD_set']
      split
      · show 0 ≤ gtop gap n + 1 ∧ gtop gap n + 1 ≤ gtop gap (n + 1)
        omega
      · have := h2 j hj
        omega
    · have hgf : ¬ gtop gap n + 1 < 16777215 := by unfold gtop; split <;> omega
      have hge : gtop gap (n + 1) = gtop gap n := by unfold gtop; split <;> omega
      rw [stp_c1f rfl rfl (by show ¬ ((T.toNat : Nat) : Int) < T; omega) hgf] at h1'
      rw [h1', itr_stay _ _ (by show (2 : Int) ≠ 0; decide)]
      exact ⟨fun h => absurd (show (n : Int) < gap - 1 from h) hlt, fun _ => ⟨rfl, rfl, rfl⟩, ⟨hlen, (fun h => by cases h), (fun h => by cases h), fun _ => by rw [hge]; exact ⟨h1, h2⟩⟩⟩
  · have hz := h.two rfl
    have hl : low (C.getD nb 0) = C.getD nb 0 := by unfold low; omega
    by_cases hlt : (n : Int) < gap
    · have h3 : itr nb 3 (tk0 T 1 2 0 who, C) = (⟨T, 1, 2, 0, who, 3, C.getD nb 0, 1, C.getD nb 0, C.getD nb 0⟩, C.set nb (C.getD nb 0 + 1)) := by
        have a1 : itr nb 1 (tk0 T 1 2 0 who, C) = (⟨T, 1, 2, 0, who, 1, C.getD nb 0, 0, 0, 0⟩, C) := by
          show ((stp nb (tk0 T 1 2 0 who) C 0).1, (stp nb (tk0 T 1 2 0 who) C 0).2.1) = _
          rw [stp_c20 rfl rfl rfl, hl, if_neg (by omega)]
          rfl
        have a2 : itr nb 2 (tk0 T 1 2 0 who, C) = (⟨T, 1, 2, 0, who, 2, C.getD nb 0, 0, 0, 0⟩, C) := by
          show ((stp nb (itr nb 1 (tk0 T 1 2 0 who, C)).1 (itr nb 1 (tk0 T 1 2 0 who, C)).2 0).1, (stp nb (itr nb 1 (tk0 T 1 2 0 who, C)).1 (itr nb 1 (tk0 T 1 2 0 who, C)).2 0).2.1) = _
          rw [a1, stp_c21s rfl rfl rfl hl]
          rfl
        show ((stp nb (itr nb 2 (tk0 T 1 2 0 who, C)).1 (itr nb 2 (tk0 T 1 2 0 who, C)).2 0).1, (stp nb (itr nb 2 (tk0 T 1 2 0 who, C)).1 (itr nb 2 (tk0 T 1 2 0 who, C)).2 0).2.1) = _
        rw [a2, stp_c22y rfl rfl rfl rfl, fin_yes' _ (by show 0 ≤ C.getD nb 0 ∧ C.getD nb 0 ≤ C.getD nb 0 ∧ C.getD nb 0 < 16777215; omega)]
        rfl
      rw [show (10 : Nat) = 3 + 7 from rfl, itr_add, h3, itr_stay _ _ (by show (1 : Int) ≠ 0; decide)]
      exact ⟨fun _ => rfl, fun h => absurd (show (n : Int) < good 2 gap from hlt) h, ⟨by rw [List.length_set]; exact hlen, (fun h => by cases h), (fun _ => by rw [getD_set', if_pos ⟨rfl, by omega⟩]; omega), (fun h => by cases h)⟩⟩
    · have a1 : itr nb 1 (tk0 T 1 2 0 who, C) = (⟨T, 1, 2, 0, who, 1, C.getD nb 0, 2, 0, 0⟩, C) := by
        show ((stp nb (tk0 T 1 2 0 who) C 0).1, (stp nb (tk0 T 1 2 0 who) C 0).2.1) = _
        rw [stp_c20 rfl rfl rfl, hl, if_pos (by omega)]
        rfl
      rw [show (10 : Nat) = 1 + 9 from rfl, itr_add, a1, itr_stay _ _ (by show (2 : Int) ≠ 0; decide)]
      exact ⟨fun h => absurd (show (n : Int) < gap from h) hlt, fun _ => ⟨rfl, rfl, rfl⟩, ⟨hlen, (fun h => by cases h), (fun _ => by show C.getD nb 0 = _; omega), (fun h => by cases h)⟩⟩

end Go.Proofs.Ytlogcoaajmbfeaa
