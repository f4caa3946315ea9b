/-
  Plain lemmas on puts (as data): what is right stays right, and how many steps are left. No Go. No condition.
-/
import Derived.Test.YtoogdfjlodchhaaPutStep
import Derived.Test.YtoogdfjlodchhaaClaimPure
import Derived.Test.YtoogdfjlodchhaaTickPure
import Derived.Test.YtoogdfjlodchhaaWalkTickMost
namespace Go.Proofs.Ytoogdfjlodchhaa
open Go.RowKit
set_option linter.unusedVariables false

theorem Tk.Ok.cells {k : Tk} {nb : Nat} {n : Int} {C C' : List Int} (h : k.Ok nb n C) (e : C'.length = C.length) : k.Ok nb n C' :=
  ⟨h.lay, h.nt, e.trans h.len, h.w0, h.w1, h.s0, h.s1, h.e0, h.e1, h.o0, h.o1, h.d0, h.d1, h.p0, h.p1, h.sw⟩
theorem Cl.Ok.cells {k : Cl} {n m : Int} {hz : Nat} {C C' : List Int} (h : k.Ok n m hz C) (e : C'.length = C.length) : k.Ok n m hz C' :=
  ⟨h.lay, h.hz, by rw [e]; exact h.len, h.w0, h.w1, h.hm, h.m0, h.m1, h.s0, h.s1, h.g0, h.g1⟩

/-- How far a claim is. -/
def Cl.mu (k : Cl) (m : Int) : Int := (k.slot - m) * (k.t + 1) + k.steps
theorem Cl.Ok.mu {k : Cl} {n m : Int} {hz : Nat} {C : List Int} (h : k.Ok n m hz C) : 0 ≤ k.mu m ∧ k.mu m < k.s * (k.t + 1) := by
  have h1 := h.s0; have h2 := h.s1; have h3 := h.g0; have h4 := h.g1; have h5 := h.lay.t1
  have h6 := Int.mul_le_mul_of_nonneg_right (show k.slot - m ≤ k.s - 1 by omega) (show 0 ≤ k.t + 1 by omega)
  have h7 := Int.mul_nonneg (show 0 ≤ k.slot - m by omega) (show 0 ≤ k.t + 1 by omega)
  rw [show (k.s - 1) * (k.t + 1) = k.s * (k.t + 1) - (k.t + 1) by rw [Int.sub_mul, Int.one_mul]] at h6
  unfold Cl.mu
  omega

theorem Cl.pass_ok {k : Cl} {n m : Int} {hz : Nat} {C : List Int} (h : k.Ok n m hz C) (hp : k.ph = 0) : (k.pass m).Ok n m hz C ∧ ((k.pass m).ph = 2 ∧ (k.pass m).steps = k.steps ∨ (k.pass m).ph = 0 ∧ (k.pass m).steps = 0 ∧ k.mu m + 1 ≤ (k.pass m).mu m) := by
  have h3 := h.g0; have h4 := h.g1; have h5 := h.lay.t1; have h6 := h.s0; have h7 := h.s1
  unfold Cl.pass
  split
  · exact ⟨⟨h.lay, h.hz, h.len, h.w0, h.w1, h.hm, h.m0, h.m1, h.s0, h.s1, h.g0, h.g1⟩, .inl ⟨rfl, rfl⟩⟩
  · refine ⟨⟨h.lay, h.hz, h.len, h.w0, h.w1, h.hm, h.m0, h.m1, by show m ≤ k.slot + 1; omega, by show k.slot + 1 < m + k.s; omega, Int.le_refl _, by show 0 ≤ k.t; omega⟩, .inr ⟨hp, rfl, ?_⟩⟩
    unfold Cl.mu
    show (k.slot - m) * (k.t + 1) + k.steps + 1 ≤ (k.slot + 1 - m) * (k.t + 1) + 0
    rw [show k.slot + 1 - m = (k.slot - m) + 1 by omega, Int.add_mul, Int.one_mul]
    omega
/-- A step of a claim, whatever the cells. -/
theorem Cl.step_ok {k : Cl} {n m : Int} {hz : Nat} {C : List Int} (h : k.Ok n m hz C) (hp : k.ph = 0) (hg : k.ph = 1 ∨ 1 ≤ k.steps → 0 ≤ k.wg ∧ k.wg ≤ 8190) :
    (k.step m hz C).Ok n m hz C ∧ ((k.step m hz C).ph = 1 ∨ 1 ≤ (k.step m hz C).steps → 0 ≤ (k.step m hz C).wg ∧ (k.step m hz C).wg ≤ 8190) ∧
      ((k.step m hz C).ph = 1 ∨ (k.step m hz C).ph = 2 ∨ (k.step m hz C).ph = 0 ∧ k.mu m + 1 ≤ (k.step m hz C).mu m) := by
  have h3 := h.g0; have h4 := h.g1; have h5 := h.lay.t1
  unfold Cl.step
  rw [if_pos hp]
  split
  · rename_i hs
    generalize C.getD (k.cell hz) 0 = x
    have hw : (k.word x).Ok n m hz C := ⟨h.lay, h.hz, h.len, h.w0, h.w1, h.hm, h.m0, h.m1, h.s0, h.s1, h.g0, h.g1⟩
    have hpa := Cl.pass_ok hw hp
    have hws : (k.word x).steps = 0 := hs
    have hmu : (k.word x).mu m = k.mu m := rfl
    have hpass : ((k.word x).pass m).Ok n m hz C ∧ (((k.word x).pass m).ph = 1 ∨ 1 ≤ ((k.word x).pass m).steps → 0 ≤ ((k.word x).pass m).wg ∧ ((k.word x).pass m).wg ≤ 8190) ∧
        (((k.word x).pass m).ph = 1 ∨ ((k.word x).pass m).ph = 2 ∨ ((k.word x).pass m).ph = 0 ∧ k.mu m + 1 ≤ ((k.word x).pass m).mu m) :=
      ⟨hpa.1, fun hh => by rcases hpa.2 with ⟨a, b⟩ | ⟨a, b, c⟩ <;> omega, by rcases hpa.2 with ⟨a, b⟩ | ⟨a, b, c⟩ <;> omega⟩
    unfold Cl.look
    split
    · exact hpass
    · rename_i hx
      split
      · exact ⟨⟨h.lay, h.hz, h.len, h.w0, h.w1, h.hm, h.m0, h.m1, h.s0, h.s1, h.g0, h.g1⟩, fun _ => by show 0 ≤ x / 8 % 8192 ∧ x / 8 % 8192 ≤ 8190; omega, .inl rfl⟩
      · split
        · refine ⟨⟨h.lay, h.hz, h.len, h.w0, h.w1, h.hm, h.m0, h.m1, h.s0, h.s1, by show (0 : Int) ≤ 1; decide, by show 1 ≤ k.t; omega⟩, fun _ => by show 0 ≤ x / 8 % 8192 ∧ x / 8 % 8192 ≤ 8190; omega, .inr (.inr ⟨hp, ?_⟩)⟩
          show (k.slot - m) * (k.t + 1) + k.steps + 1 ≤ (k.slot - m) * (k.t + 1) + 1
          omega
        · exact hpass
  · rename_i hs
    generalize C.getD (k.cell hz) 0 = x
    have hpa := Cl.pass_ok h hp
    have hw := hg (.inr (by omega))
    unfold Cl.guard
    split
    · refine ⟨hpa.1, fun _ => ?_, by rcases hpa.2 with ⟨a, b⟩ | ⟨a, b, c⟩ <;> omega⟩
      have : (k.pass m).wg = k.wg := by unfold Cl.pass; split <;> rfl
      omega
    · split
      · exact ⟨⟨h.lay, h.hz, h.len, h.w0, h.w1, h.hm, h.m0, h.m1, h.s0, h.s1, h.g0, h.g1⟩, fun _ => hw, .inl rfl⟩
      · refine ⟨⟨h.lay, h.hz, h.len, h.w0, h.w1, h.hm, h.m0, h.m1, h.s0, h.s1, by show 0 ≤ k.steps + 1; omega, by show k.steps + 1 ≤ k.t; omega⟩, fun _ => hw, .inr (.inr ⟨hp, ?_⟩)⟩
        show (k.slot - m) * (k.t + 1) + k.steps + 1 ≤ (k.slot - m) * (k.t + 1) + (k.steps + 1)
        omega

/-- A step of a stamp, whatever the cells. -/
theorem stp_more {nb : Nat} {n : Int} {k : Tk} {C : List Int} {now : Int} (h : k.Ok nb n C) (hp : k.ph = 0) (hm : k.steps < most k.t k.so k.d) (n0 : 0 ≤ now) (hC : ∀ j, 0 ≤ C.getD j 0) :
    ((stp nb k C now).1.ph = 1 → 0 ≤ (stp nb k C now).1.lo ∧ (stp nb k C now).1.lo ≤ (stp nb k C now).1.hi ∧ (stp nb k C now).1.hi < 16777215) ∧
      ((stp nb k C now).1.ph = 1 ∨ (stp nb k C now).1.ph = 2 ∨ (stp nb k C now).1.ph = 0 ∧ (stp nb k C now).1.steps = k.steps + 1 ∧ k.steps + 1 < most k.t k.so k.d) := by
  have he := h.e0; have hs0 := h.s0; have ho0 := h.o0; have ho1 := h.o1
  have hf : ∀ (k : Tk) (x y : Int), ((fin k x y).ph = 1 → 0 ≤ (fin k x y).lo ∧ (fin k x y).lo ≤ (fin k x y).hi ∧ (fin k x y).hi < 16777215) ∧ ((fin k x y).ph = 1 ∨ (fin k x y).ph = 2) := by
    intro k x y
    unfold fin
    split
    · rename_i hh
      exact ⟨fun _ => hh, .inl rfl⟩
    · exact ⟨fun h => by simp at h, .inr rfl⟩
  have hf' : ∀ (k : Tk) (x y z q : Int), ((fin k x y).ph = 1 → 0 ≤ (fin k x y).lo ∧ (fin k x y).lo ≤ (fin k x y).hi ∧ (fin k x y).hi < 16777215) ∧ ((fin k x y).ph = 1 ∨ (fin k x y).ph = 2 ∨ (fin k x y).ph = 0 ∧ (fin k x y).steps = z ∧ z < q) :=
    fun k x y z q => ⟨(hf k x y).1, (hf k x y).2.imp id .inl⟩
  unfold stp
  rw [if_pos hp]
  rcases (by omega : k.so = 0 ∨ k.so = 1 ∨ k.so = 2 ∨ k.so = 3 ∨ k.so = 4) with hs | hs | hs | hs | hs
  · rw [if_pos hs]
    exact hf' _ _ _ _ _
  · have hmm : most k.t k.so k.d = k.t + 1 := by rw [hs]; rfl
    rw [if_neg (by omega), if_pos hs]
    split
    · exact ⟨fun h => by have h' : k.ph = 1 := h; omega, .inr (.inr ⟨hp, rfl, by omega⟩)⟩
    · split
      · rename_i h1
        exact ⟨fun _ => ⟨by show 0 ≤ k.seen + 1; omega, Int.le_refl _, h1⟩, .inl rfl⟩
      · exact ⟨fun h => by simp at h, .inr (.inl rfl)⟩
  · have hmm : most k.t k.so k.d = 4 := by rw [hs]; rfl
    rw [if_neg (by omega), if_neg (by omega), if_pos hs]
    split
    · by_cases hx : low (C.getD nb 0) = 16777215
      · rw [if_pos hx]
        exact ⟨fun h => by simp at h, .inr (.inl rfl)⟩
      · rw [if_neg hx]
        exact ⟨fun h => by simp at h, .inr (.inr ⟨rfl, rfl, by omega⟩)⟩
    · split
      · split
        · exact ⟨fun h => by have h' : k.ph = 1 := h; omega, .inr (.inr ⟨hp, rfl, by omega⟩)⟩
        · exact hf' _ _ _ _ _
      · split
        · split
          · exact hf' _ _ _ _ _
          · exact ⟨fun h => by have h' : k.ph = 1 := h; omega, .inr (.inr ⟨hp, rfl, by omega⟩)⟩
        · exact hf' _ _ _ _ _
  · rw [if_neg (by omega), if_neg (by omega), if_neg (by omega), if_pos (.inl hs)]
    exact hf' _ _ _ _ _
  · have hmm : most k.t k.so k.d = k.d + 2 := by rw [hs]; rfl
    rw [if_neg (by omega), if_neg (by omega), if_neg (by omega)]
    split
    · exact hf' _ _ _ _ _
    · rename_i hh
      exact ⟨fun h => by have h' : k.ph = 1 := h; omega, .inr (.inr ⟨hp, rfl, by omega⟩)⟩

/-- What never turns. -/
structure Pu.Same (k k' : Pu) : Prop where
  t : k'.t = k.t
  s : k'.s = k.s
  so : k'.so = k.so
  d : k'.d = k.d
  who : k'.who = k.who
  e : k'.e = k.e
  value : k'.value = k.value
  tso : k'.tk.so = k.tk.so
  td : k'.tk.d = k.tk.d
theorem Pu.Same.refl (k : Pu) : k.Same k := ⟨rfl, rfl, rfl, rfl, rfl, rfl, rfl, rfl, rfl⟩
theorem Pu.Same.trans {a b c : Pu} (h : a.Same b) (k : b.Same c) : a.Same c := ⟨k.t.trans h.t, k.s.trans h.s, k.so.trans h.so, k.d.trans h.d, k.who.trans h.who, k.e.trans h.e, k.value.trans h.value, k.tso.trans h.tso, k.td.trans h.td⟩
theorem Pu.after_same (k : Pu) (r : Int) : k.Same (k.after r) := by
  unfold Pu.after
  split
  · exact ⟨rfl, rfl, rfl, rfl, rfl, rfl, rfl, rfl, rfl⟩
  · split <;> exact ⟨rfl, rfl, rfl, rfl, rfl, rfl, rfl, rfl, rfl⟩
theorem Pu.step_same (k : Pu) (m : Int) (nb hz : Nat) (C : List Int) (now : Int) : k.Same (k.step m nb hz C now) := by
  unfold Pu.step
  split
  · exact .refl k
  · split
    · exact Pu.Same.trans (b := { k with cl := k.cl.step m hz C }) ⟨rfl, rfl, rfl, rfl, rfl, rfl, rfl, rfl, rfl⟩ (Pu.after_same _ _)
    · split
      · have e := stp_same nb k.tk C now
        exact Pu.Same.trans (b := { k with tk := (stp nb k.tk C now).1 }) ⟨rfl, rfl, rfl, rfl, rfl, rfl, rfl, e.2.2.1, e.2.2.2.1⟩ (Pu.after_same _ _)
      · split <;> exact ⟨rfl, rfl, rfl, rfl, rfl, rfl, rfl, rfl, rfl⟩

/-- How many steps are left, at most. -/
def Pu.rem (k : Pu) (m : Int) : Int :=
  if k.ph ≠ 0 then 0 else if k.next = 0 then k.s * (k.t + 1) - k.cl.mu m + most k.t k.tk.so k.tk.d + 2 else if k.next = 1 then most k.t k.tk.so k.tk.d - k.tk.steps + 2 else if k.next = 2 then 2 else 1

theorem most_pos {t so d : Int} (t1 : 1 ≤ t) (d0 : 0 ≤ d) : 1 ≤ most t so d := by
  unfold most
  repeat' split
  all_goals omega

section
variable {k : Pu} {N : Nat} {m : Int} {nb hz : Nat} {C : List Int} {now : Int}

theorem Pu.rem_pos (h : k.Ok N m nb hz C) (hp : k.ph = 0) : 1 ≤ k.rem m := by
  have h1 := h.cl.mu
  have h2 := h.cl.lay.t1
  have h3 := h.tk.d0
  rw [h.cs, h.ct] at h1
  have h4 := most_pos (t := k.t) (so := k.tk.so) (d := k.tk.d) (by rw [← h.ct]; exact h2) h3
  unfold Pu.rem
  rw [if_neg (by omega)]
  rcases h.at' hp with ⟨a, b, c⟩ | ⟨a, b, c⟩ | ⟨a, b, c⟩ | ⟨a, b, c⟩
  · rw [if_pos a]
    omega
  · have := h.tm c
    rw [if_neg (by omega), if_pos a]
    omega
  · rw [if_neg (by omega), if_neg (by omega), if_pos a]
    omega
  · rw [if_neg (by omega), if_neg (by omega), if_neg (by omega)]
    omega

theorem Pu.after_1 (k : Pu) : k.after 1 = { k with next := k.next + 1 } := by unfold Pu.after; rw [if_pos rfl]
theorem Pu.after_2 (k : Pu) : k.after 2 = { k with ph := 2 } := by unfold Pu.after; rw [if_neg (by decide), if_pos rfl]
theorem Pu.after_0 (k : Pu) : k.after 0 = k := by unfold Pu.after; rw [if_neg (by decide), if_neg (by decide)]

/-- A step leaves what is right right; and there is one step less left. -/
theorem Pu.Ok.next_ (h : k.Ok N m nb hz C) (n0 : 0 ≤ now) (hn : ∀ j, 0 ≤ C.getD j 0) : (k.step m nb hz C now).Ok N m nb hz C ∧ (k.ph = 0 → (k.step m nb hz C now).rem m + 1 ≤ k.rem m) := by
  by_cases hp : k.ph ≠ 0
  · rw [show k.step m nb hz C now = k from if_pos hp]
    exact ⟨h, fun h => absurd h hp⟩
  · have hp0 : k.ph = 0 := Classical.not_not.1 hp
    obtain ⟨cl, tk, ct, cs, cw, tt, ts, tw, wg, st, e0, e1, v0, v1, at', tm⟩ := id h
    have hpos := Pu.rem_pos h hp0
    have hmp := most_pos (t := k.t) (so := k.tk.so) (d := k.tk.d) (by rw [← ct]; exact cl.lay.t1) tk.d0
    unfold Pu.step
    rw [if_neg hp]
    rcases at' hp0 with ⟨a, b, c⟩ | ⟨a, b, c⟩ | ⟨a, b, c⟩ | ⟨a, b, c⟩
    · rw [if_pos a]
      obtain ⟨o1, o2, o3⟩ := Cl.step_ok cl b wg
      obtain ⟨s1, s2, s3⟩ := Cl.step_same k.cl m hz C
      have hrem : k.rem m = k.s * (k.t + 1) - k.cl.mu m + most k.t k.tk.so k.tk.d + 2 := by unfold Pu.rem; rw [if_neg hp, if_pos a]
      have hmu := cl.mu
      rw [cs, ct] at hmu
      generalize hc1 : k.cl.step m hz C = c1 at o1 o2 o3 s1 s2 s3 ⊢
      rcases o3 with o3 | o3 | ⟨o3, o4⟩
      · rw [o3, Pu.after_1]
        refine ⟨⟨o1, tk, s1.trans ct, s2.trans cs, s3.trans cw, tt, ts, tw, o2, st, e0, e1, v0, v1, fun _ => .inr (.inl ⟨by show k.next + 1 = 1; omega, o3, c⟩), tm⟩, fun _ => ?_⟩
        rw [hrem]
        unfold Pu.rem
        rw [if_neg hp, if_neg (by show ¬ k.next + 1 = 0; omega), if_pos (by show k.next + 1 = 1; omega)]
        have := tk.s0
        show most k.t k.tk.so k.tk.d - k.tk.steps + 2 + 1 ≤ _
        omega
      · rw [o3, Pu.after_2]
        refine ⟨⟨o1, tk, s1.trans ct, s2.trans cs, s3.trans cw, tt, ts, tw, o2, st, e0, e1, v0, v1, fun h => by simp at h, tm⟩, fun _ => ?_⟩
        have : Pu.rem { k with cl := c1, ph := 2 } m = 0 := by unfold Pu.rem; rw [if_pos (by simp)]
        rw [this]
        omega
      · rw [o3, Pu.after_0]
        refine ⟨⟨o1, tk, s1.trans ct, s2.trans cs, s3.trans cw, tt, ts, tw, o2, st, e0, e1, v0, v1, fun _ => .inl ⟨a, o3, c⟩, tm⟩, fun _ => ?_⟩
        rw [hrem]
        unfold Pu.rem
        rw [if_neg hp, if_pos a]
        show k.s * (k.t + 1) - c1.mu m + most k.t k.tk.so k.tk.d + 2 + 1 ≤ _
        omega
    · rw [if_neg (by omega), if_pos a]
      have htm := tm c
      rw [← tt] at htm
      obtain ⟨m1, m2⟩ := stp_more tk c htm n0 hn
      have hsl : k.tk.steps < 1000000 := by
        have h1 : most k.tk.t k.tk.so k.tk.d ≤ 102 := by
          have h2 := tk.d1; have h3 := tk.lay.t2
          unfold most
          repeat' split
          all_goals omega
        omega
      have ok' := (stp_ok nb N k.tk C now tk hsl n0 hn).cells (stp_same nb k.tk C now).2.2.2.2.2.symm
      obtain ⟨s1, s2, s3, s4, s5, s6⟩ := stp_same nb k.tk C now
      have hrem : k.rem m = most k.t k.tk.so k.tk.d - k.tk.steps + 2 := by unfold Pu.rem; rw [if_neg hp, if_neg (by omega), if_pos a]
      clear htm
      have htm := tm c
      rw [tt] at m2
      generalize hc1 : (stp nb k.tk C now).1 = c1 at m1 m2 ok' s1 s2 s3 s4 s5 ⊢
      rcases m2 with o3 | o3 | ⟨o3, o4, o5⟩
      · rw [o3, Pu.after_1]
        refine ⟨⟨cl, ok', ct, cs, cw, s1.trans tt, s2.trans ts, s5.trans tw, wg, m1, e0, e1, v0, v1, fun _ => .inr (.inr (.inl ⟨by show k.next + 1 = 2; omega, b, o3⟩)), fun h => by have h' : c1.ph = 0 := h; omega⟩, fun _ => ?_⟩
        rw [hrem]
        unfold Pu.rem
        rw [if_neg hp, if_neg (by show ¬ k.next + 1 = 0; omega), if_neg (by show ¬ k.next + 1 = 1; omega), if_pos (by show k.next + 1 = 2; omega)]
        omega
      · rw [o3, Pu.after_2]
        refine ⟨⟨cl, ok', ct, cs, cw, s1.trans tt, s2.trans ts, s5.trans tw, wg, m1, e0, e1, v0, v1, fun h => by simp at h, fun h => by have h' : c1.ph = 0 := h; omega⟩, fun _ => ?_⟩
        have : Pu.rem { k with tk := c1, ph := 2 } m = 0 := by unfold Pu.rem; rw [if_pos (by simp)]
        rw [this]
        omega
      · rw [o3, Pu.after_0]
        refine ⟨⟨cl, ok', ct, cs, cw, s1.trans tt, s2.trans ts, s5.trans tw, wg, m1, e0, e1, v0, v1, fun _ => .inr (.inl ⟨a, b, o3⟩), fun _ => by show c1.steps < most k.t c1.so c1.d; rw [s3, s4]; omega⟩, fun _ => ?_⟩
        rw [hrem]
        unfold Pu.rem
        rw [if_neg hp, if_neg (by show ¬ k.next = 0; omega), if_pos a]
        show most k.t c1.so c1.d - c1.steps + 2 + 1 ≤ _
        rw [s3, s4]
        omega
    · rw [if_neg (by omega), if_neg (by omega), if_pos a]
      refine ⟨⟨cl, tk, ct, cs, cw, tt, ts, tw, wg, st, e0, e1, v0, v1, fun _ => .inr (.inr (.inr ⟨rfl, b, c⟩)), tm⟩, fun _ => ?_⟩
      have h1 : k.rem m = 2 := by unfold Pu.rem; rw [if_neg hp, if_neg (by omega), if_neg (by omega), if_pos a]
      have h2 : Pu.rem { k with next := 3 } m = 1 := by unfold Pu.rem; rw [if_neg hp, if_neg (by simp), if_neg (by simp), if_neg (by simp)]
      omega
    · rw [if_neg (by omega), if_neg (by omega), if_neg (by omega)]
      refine ⟨⟨cl, tk, ct, cs, cw, tt, ts, tw, wg, st, e0, e1, v0, v1, fun h => by simp at h, tm⟩, fun _ => ?_⟩
      have h2 : Pu.rem { k with ph := 1 } m = 0 := by unfold Pu.rem; rw [if_pos (by simp)]
      omega
theorem Pu.Ok.cells (h : k.Ok N m nb hz C) {C' : List Int} (e : C'.length = C.length) : k.Ok N m nb hz C' :=
  ⟨h.cl.cells e, h.tk.cells e, h.ct, h.cs, h.cw, h.tt, h.ts, h.tw, h.wg, h.st, h.e0, h.e1, h.v0, h.v1, h.at', h.tm⟩
theorem Pu.cells_len (k : Pu) (N nb : Nat) (C : List Int) (now : Int) : (k.cells N nb C now).length = C.length := by
  unfold Pu.cells
  split
  · rfl
  · split
    · rfl
    · split
      · exact (stp_same nb k.tk C now).2.2.2.2.2
      · split <;> simp
theorem Pu.ev_le (k : Pu) (N nb hz : Nat) (C : List Int) (now : Int) : (k.ev N nb hz C now).length ≤ 1 := by
  unfold Pu.ev
  split
  · simp
  · split
    · exact Cl.ev_le _ _ _
    · split
      · cases (stp nb k.tk C now).2.2 <;> simp
      · split <;> simp
end

theorem pu0_ok {t s so d who e value m : Int} {N nb hz : Nat} {C : List Int} (hl : Lay t s N) (h2 : (hz : Int) = 2 * N) (h3 : (nb : Int) = 2 * N + t) (h4 : C.length = nb + t.toNat) (w0 : 0 ≤ who) (w1 : who < t) (hm : who * s = m) (m0 : 0 ≤ m) (m1 : m + s ≤ N)
    (o0 : 0 ≤ so) (o1 : so ≤ 4) (d0 : 0 ≤ d) (d1 : d ≤ 100) (e0 : 0 ≤ e) (e1 : e ≤ 1) (v0 : 0 ≤ value) (v1 : value ≤ 18446744073709551615) : (pu0 t s so d who e value m).Ok N m nb hz C := by
  have hs1 := hl.s1
  have ht1 := hl.t1
  exact ⟨⟨hl, h2, by show (C.length : Int) = 2 * N + 2 * t; omega, w0, w1, hm, m0, m1, Int.le_refl _, by show m < m + s; omega, Int.le_refl _, by show 0 ≤ t; omega⟩,
    ⟨hl, h3, h4, w0, w1, Int.le_refl _, by show (0 : Int) ≤ 1000000; decide, Int.le_refl _, by show (0 : Int) ≤ 16777215; decide, o0, o1, d0, d1, Int.le_refl _, by show (0 : Int) ≤ 2; decide, fun _ h => absurd h (by show ¬ (1 : Int) ≤ 0; decide)⟩,
    rfl, rfl, rfl, rfl, rfl, rfl, fun h => by rcases h with h | h <;> exact absurd h (by simp [pu0, cl0]), fun h => by exact absurd h (by simp [pu0, tk0]), e0, e1, v0, v1, fun _ => .inl ⟨rfl, rfl, rfl⟩, fun _ => most_pos ht1 d0⟩
theorem pu0_rem (t s so d who e value m : Int) : (pu0 t s so d who e value m).rem m = s * (t + 1) + most t so d + 2 := by
  unfold Pu.rem
  rw [if_neg (by simp [pu0]), if_pos (show (pu0 t s so d who e value m).next = 0 from rfl)]
  show s * (t + 1) - ((m - m) * (t + 1) + 0) + most t so d + 2 = _
  rw [Int.sub_self, Int.zero_mul]
  omega

end Go.Proofs.Ytoogdfjlodchhaa
