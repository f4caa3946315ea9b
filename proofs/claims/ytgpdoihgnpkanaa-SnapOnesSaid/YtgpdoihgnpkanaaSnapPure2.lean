/-
  Plain lemmas on snaps (as data): a word that is turned ahead of each pass; words that never are again what they were. No Go. No condition.
-/
import Derived.Test.YtgpdoihgnpkanaaSnapLaw
namespace Go.Proofs.Ytgpdoihgnpkanaa
open Go.RowKit
set_option linter.unusedVariables false

section
variable {k : Sn} {N st r P B : Nat} {C : List Int} {last : Int}

theorem QInv.store_any (h : QInv k C N st r P B last) (C' : List Int) (B' : Nat) (hB : P + 1 ≤ B') : QInv k C' N st r P B' P :=
  ⟨h.at', h.ph, fun e => absurd rfl e, fun _ e => by omega, fun _ => hB, fun e => absurd rfl e, by omega, Int.le_refl _⟩

/-- Word j was turned to q + 1 ahead of pass q, of which i words were read. -/
def Nev (k : Sn) (C : List Int) (N st q j i : Nat) : Prop :=
  (i < N ∧ QInv k C N st i q (q + 1) q ∧ C.getD j 0 = (q : Int) + 1 ∧ ((∃ e, e < i ∧ (st + e) % N = j) → k.turned = true ∧ k.X.getD j 0 = (q : Int) + 1) ∧ ((¬ ∃ e, e < i ∧ (st + e) % N = j) → k.X.getD j 0 = (q : Int))) ∨
  (i = N ∧ QInv k C N st 0 (q + 1) (q + 1) q ∧ C.getD j 0 = (q : Int) + 1 ∧ k.X.getD j 0 = (q : Int) + 1)

theorem Nev.step {q j i : Nat} (h : Nev k C N st q j i) (hi : i < N) (hj : j < N) : Nev (k.step C) C N st q j (i + 1) ∧ (k.step C).ph = 0 := by
  rcases h with ⟨_, hQ, hC, h1, h2⟩ | ⟨hiN, _⟩
  case inr => omega
  have hsl := hQ.at'.slot
  have hX := hQ.at'.X
  have hs1 := hQ.at'.s1
  have hlt := hQ.at'.slot_lt
  have hturn : (st + i) % N = j → (k.turned || decide (C.getD k.slot 0 ≠ k.X.getD k.slot 0)) = true := by
    intro e
    have hne : ¬ ∃ e, e < i ∧ (st + e) % N = j := by
      rintro ⟨e2, he, he2⟩
      exact slot_inj he hi (he2.trans e.symm)
    rw [hsl, e, hC, h2 hne]
    simp
    right
    omega
  have hkeep : (∃ e, e < i ∧ (st + e) % N = j) → (k.turned || decide (C.getD k.slot 0 ≠ k.X.getD k.slot 0)) = true := by
    intro he
    rw [(h1 he).1]
    simp
  have hval : (k.X.set k.slot (C.getD k.slot 0)).getD j 0 = if (st + i) % N = j then (q : Int) + 1 else k.X.getD j 0 := by
    rw [set_getD _ _ _ _ (by omega), hsl]
    split
    · rename_i e
      rw [e, hC]
    · rfl
  rcases (by omega : i + 1 < N ∨ i + 1 = N) with hr | hr
  · obtain ⟨m1, m2, m3, m4, m5⟩ := hQ.at'.mid (C := C) hQ.ph hr
    refine ⟨.inl ⟨hr, hQ.mid hr, hC, fun he => ?_, fun he => ?_⟩, m2⟩
    · rw [m5, m4, hval]
      by_cases e : (st + i) % N = j
      · rw [if_pos e]
        exact ⟨hturn e, rfl⟩
      · rw [if_neg e]
        obtain ⟨e2, h3, h4⟩ := he
        have h5 : ∃ e, e < i ∧ (st + e) % N = j := ⟨e2, by
          have : e2 ≠ i := fun h => e (h ▸ h4)
          omega, h4⟩
        exact ⟨hkeep h5, (h1 h5).2⟩
    · rw [m4, hval, if_neg (fun e => he ⟨i, by omega, e⟩)]
      exact h2 (fun ⟨e2, h3, h4⟩ => he ⟨e2, by omega, h4⟩)
  · obtain ⟨m1, m3, m4, m6, m7⟩ := hQ.at'.last (C := C) hQ.ph hr
    obtain ⟨e2, he2, he3⟩ := slot_sur hs1 hj
    have hd : (k.turned || decide (C.getD k.slot 0 ≠ k.X.getD k.slot 0)) = true := by
      by_cases e : (st + i) % N = j
      · exact hturn e
      · exact hkeep ⟨e2, by
          have : e2 ≠ i := fun h => e (h ▸ he3)
          omega, he3⟩
    rw [if_neg (fun h => by rw [hd] at h; cases h.2)] at m7
    have hx : (k.step C).X.getD j 0 = (q : Int) + 1 := by
      rw [m4, hval]
      split
      · rfl
      · rename_i e
        exact (h1 ⟨e2, by
          have : e2 ≠ i := fun h => e (h ▸ he3)
          omega, he3⟩).2
    rcases hQ.last hr with h3 | h3
    · exact ⟨.inr ⟨hr, h3, hC, hx⟩, m7⟩
    · have := h3.ph
      omega
theorem Nev.qinv {q j i : Nat} (h : Nev k C N st q j i) : ∃ r P, r < N ∧ QInv k C N st r P (q + 1) q ∧ P ≤ q + 1 := by
  rcases h with ⟨h, hQ, _⟩ | ⟨_, hQ, _⟩
  · exact ⟨i, q, h, hQ, by omega⟩
  · exact ⟨0, q + 1, hQ.at'.r1, hQ, Nat.le_refl _⟩

/-- Words that only rise: F is what they were as this pass began. -/
structure Rise (k : Sn) (C : List Int) (N st r : Nat) (F : List Int) : Prop where
  le : ∀ j, j < N → k.X.getD j 0 ≤ C.getD j 0
  up : ∀ j, j < N → F.getD j 0 ≤ C.getD j 0
  same : k.turned = false → ∀ j, j < N → k.X.getD j 0 ≤ F.getD j 0
  read : ∀ q, q < r → F.getD ((st + q) % N) 0 ≤ k.X.getD ((st + q) % N) 0

theorem Rise.mid {F : List Int} (h : Rise k C N st r F) (hA : SnAt k N st r P) (hp : k.ph = 0) (hr : r + 1 < N) : Rise (k.step C) C N st (r + 1) F := by
  obtain ⟨m1, m2, m3, m4, m5⟩ := hA.mid (C := C) hp hr
  have hsl := hA.slot
  have hlt := hA.slot_lt
  have hX := hA.X
  refine ⟨fun j hj => ?_, h.up, fun ht j hj => ?_, fun q hq => ?_⟩
  · rw [m4, set_getD _ _ _ _ (by omega)]
    split
    · rename_i e
      rw [e]
      exact Int.le_refl _
    · exact h.le j hj
  · rw [m5] at ht
    simp only [Bool.or_eq_false_iff, decide_eq_false_iff_not, Classical.not_not] at ht
    rw [m4, set_getD _ _ _ _ (by omega)]
    split
    · rename_i e
      rw [ht.2, e]
      exact h.same ht.1 j hj
    · exact h.same ht.1 j hj
  · rw [m4, set_getD _ _ _ _ (by omega), hsl]
    split
    · rename_i e
      rw [e]
      exact h.up _ (by rw [← e, ← hsl]; exact hlt)
    · rename_i e
      have : q ≠ r := fun e2 => e (by rw [e2])
      exact h.read q (by omega)

theorem Rise.ends {F : List Int} (h : Rise k C N st r F) (hA : SnAt k N st r P) (hp : k.ph = 0) (hr : r + 1 = N) :
    (∀ j, j < N → (k.step C).X.getD j 0 ≤ C.getD j 0) ∧ ((k.step C).ph = 1 → ∀ j, j < N → (k.step C).X.getD j 0 = F.getD j 0) := by
  obtain ⟨m1, m3, m4, m6, m7⟩ := hA.last (C := C) hp hr
  have hsl := hA.slot
  have hlt := hA.slot_lt
  have hX := hA.X
  refine ⟨fun j hj => ?_, fun hd j hj => ?_⟩
  · rw [m4, set_getD _ _ _ _ (by omega)]
    split
    · rename_i e
      rw [e]
      exact Int.le_refl _
    · exact h.le j hj
  · rw [m7] at hd
    split at hd
    case isFalse => omega
    rename_i hc
    have ht := hc.2
    simp only [Bool.or_eq_false_iff, decide_eq_false_iff_not, Classical.not_not] at ht
    have h1 := h.same ht.1 j hj
    have h2 : F.getD j 0 ≤ (k.step C).X.getD j 0 := by
      rw [m4, set_getD _ _ _ _ (by omega)]
      split
      · rename_i e
        rw [e]
        exact h.up j hj
      · rename_i e
        obtain ⟨q, hq, rfl⟩ := slot_sur hA.s1 hj
        have : q ≠ r := fun e2 => e (by rw [e2, hsl])
        exact h.read q (by omega)
    have h3 : (k.step C).X.getD j 0 = k.X.getD j 0 := by
      rw [m4, set_getD _ _ _ _ (by omega)]
      split
      · rename_i e
        rw [ht.2, e]
      · rfl
    omega

/-- A pass begins. -/
theorem Rise.begin {F : List Int} (hle : ∀ j, j < N → k.X.getD j 0 ≤ C.getD j 0) (hF : ∀ j, j < N → F.getD j 0 = C.getD j 0) : Rise k C N st 0 F :=
  ⟨hle, fun j hj => by rw [hF j hj]; exact Int.le_refl _, fun _ j hj => by rw [hF j hj]; exact hle j hj, fun q hq => by omega⟩
/-- A word is turned to a number above all others. -/
theorem Rise.store {F : List Int} (h : Rise k C N st r F) (j : Nat) (x : Int) (hx : C.getD j 0 ≤ x) (hj : j < C.length) : Rise k (C.set j x) N st r F :=
  have up : ∀ e, C.getD e 0 ≤ (C.set j x).getD e 0 := fun e => by
    rw [set_getD _ _ _ _ hj]
    split
    · rename_i h2
      rw [← h2]
      exact hx
    · exact Int.le_refl _
  ⟨fun e he => Int.le_trans (h.le e he) (up e), fun e he => Int.le_trans (h.up e he) (up e), h.same, h.read⟩

/-- What is known ahead of step n. -/
def Ones (k : Sn) (C : List Int) (N st n B : Nat) (last : Int) (F : List Int) : Prop :=
  (∃ P r, n = P * N + r ∧ QInv k C N st r P B last ∧ (∀ j, j < N → k.X.getD j 0 ≤ C.getD j 0) ∧ (0 < r → Rise k C N st r F)) ∨
  (∃ P, n = P * N ∧ DInv k C N st P B last ∧ ∀ j, j < N → k.X.getD j 0 = F.getD j 0)
theorem Ones.step {F : List Int} {n : Nat} (hn : n = P * N + r) (hQ : QInv k C N st r P B last) (hR : Rise k C N st r F) : Ones (k.step C) C N st (n + 1) B last F := by
  rcases (by have := hQ.at'.r1; omega : r + 1 < N ∨ r + 1 = N) with hr | hr
  · have h2 := hR.mid hQ.at' hQ.ph hr
    exact .inl ⟨P, r + 1, by omega, hQ.mid hr, h2.le, fun _ => h2⟩
  · have h2 := hR.ends hQ.at' hQ.ph hr
    rcases hQ.last hr with h3 | h3
    · exact .inl ⟨P + 1, 0, by rw [Nat.add_mul]; omega, h3, h2.1, fun h => by omega⟩
    · exact .inr ⟨P + 1, by rw [Nat.add_mul]; omega, h3, h2.2 h3.ph⟩
theorem QInv.snap {i : Nat} (h : QInv k C N st r P B last) (hi : i = P * N + r) : Snap k C N st i B last := .inl ⟨P, r, hi, h⟩
theorem Ones.cases {F : List Int} {n : Nat} (h : Ones k C N st n B last F) : (n < (B + 2) * N ∧ ∃ P r, n = P * N + r ∧ QInv k C N st r P B last ∧ (∀ j, j < N → k.X.getD j 0 ≤ C.getD j 0) ∧ (0 < r → Rise k C N st r F)) ∨ (k.ph = 1 ∧ k.X.length = N ∧ k.N = N ∧ N ≤ n ∧ n ≤ (B + 2) * N ∧ ∀ j, j < N → k.X.getD j 0 = F.getD j 0) := by
  rcases h with ⟨P, r, hi, h, h2⟩ | ⟨P, hi, h, h2⟩
  · have h1 := Nat.mul_le_mul_right N h.c3
    have h3 := h.at'.r1
    refine .inl ⟨?_, P, r, hi, h, h2⟩
    rw [Nat.add_mul] at h1 ⊢
    omega
  · have h1 := Nat.mul_le_mul_right N h.b
    have h3 := Nat.mul_le_mul_right N h.p
    exact .inr ⟨h.ph, h.at'.X, h.at'.hN, by omega, by omega, h2⟩
end

end Go.Proofs.Ytgpdoihgnpkanaa
