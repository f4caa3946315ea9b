/-
  A yard's whole way, move by move: what is known of it at each, and that no word comes back. No Go. No condition.
-/
import Derived.Test.YtpfjommkjkbonaaGreatStampYard
import Derived.Test.YtpfjommkjkbonaaGreatHistYard
namespace Go.Proofs.YtpfjommkjkbonaaGreat
open Go.RowKit
set_option linter.unusedVariables false

/-- What a word says of its use: how often, and what it is. -/
def rankW (x : Int) : Int := (x / 8 % 8192) * 4 + x % 4
section
variable {B : YB} {N n : Nat} {Y Y' : Yd}
/-- A word that is turned rises. -/
theorem words_rise (h : AOk B N Y) (h' : AOk B N Y') (ho : YOk (plOf B N) B.T n Y) (hm : YMv (plOf B N) Y Y') (hl : (Y.C.length : Int) = 2 * N + 2 * B.t) (hfit : ∀ j, 0 ≤ Y.C.getD j 0 ∧ Y.C.getD j 0 ≤ 18446744073709551615) (hfit' : ∀ j, 0 ≤ Y'.C.getD j 0 ∧ Y'.C.getD j 0 ≤ 18446744073709551615) {j : Nat} (hj : j < N) : Y'.C.getD j 0 = Y.C.getD j 0 ∨ rankW (Y.C.getD j 0) < rankW (Y'.C.getD j 0) := by
  obtain ⟨w, E, hN, hL, _⟩ := YMv.noted ho hm
  rcases hN with ⟨_, hC⟩ | ⟨e, hE, h1⟩
  · rw [hC]
    exact .inl rfl
  · rw [hE] at hL
    have hmay := h'.all Y.L.length e (by rw [hL, List.getElem?_append_right (Nat.le_refl _), Nat.sub_self]; rfl)
    rw [hL, List.take_left] at hmay
    obtain ⟨_, _, c0, _, _, hmid⟩ := hmay
    have hc1 := h1.c1
    by_cases hje : e.cell.toNat = j
    · have hcj : e.cell = (j : Int) := by omega
      rw [if_pos (by omega)] at hmid
      have hold : e.old = Y.C.getD j 0 := by rw [h1.old, hje]
      have hnew : Y'.C.getD j 0 = e.new := by rw [h1.cells, hje, getD_set_eq' _ (by omega)]
      have f1 := hfit j
      have f2 := hfit' j
      rw [hnew]
      rw [← hold] at f1 ⊢
      rw [hnew] at f2
      have hsame : e.op = 0 ∨ e.ok = false → e.new = e.old := fun hq => by rw [h1.new hq, h1.old]
      unfold rankW
      rcases hmid with q | ⟨q1, q2, q3, q4, q5, q6, q7⟩ | ⟨q1, q2 | ⟨q2, q3, q4, q5, q6, q7⟩⟩
      · exact .inl (hsame (.inl q))
      · right
        omega
      · exact .inl (hsame (.inr q2))
      · right
        omega
    · rw [h1.cells, getD_set_ne' _ hje]
      exact .inl rfl
end

/-- A yard's way: m moves, from its beginning on. -/
structure YTr (B : YB) (N : Nat) (Y : Nat → Yd) (m : Nat) : Prop where
  zero : Y 0 = ⟨List.replicate (2 * N + 2 * B.T) 0, [], 0, 0, List.replicate B.T none, []⟩
  how : ∀ i, i < m → YHow B N (Y i) (Y (i + 1))
  mv : ∀ i, i < m → YMv (plOf B N) (Y i) (Y (i + 1))
  fit : ∀ i, i ≤ m → ∀ j, 0 ≤ (Y i).C.getD j 0 ∧ (Y i).C.getD j 0 ≤ 18446744073709551615
  cf : YCf B N
  hT : (B.T : Int) = B.t
  few : m < 1000000
/-- What is known of it at each move. -/
structure YAll (B : YB) (N : Nat) (Y : Yd) (i : Nat) : Prop where
  ok : YOk (plOf B N) B.T i Y
  len : (Y.C.length : Int) = 2 * N + 2 * B.t
  aok : AOk B N Y
  cok : COk B N Y
  sok : SOk B N Y
  num : YNum Y
section
variable {B : YB} {N m : Nat} {Y : Nat → Yd}
theorem yard_len {pl : Nat → Pl} {Y Y' : Yd} (h : YMv pl Y Y') : Y'.C.length = Y.C.length := by
  cases h with
  | rest => rfl
  | call => rfl
  | pass => rfl
  | step => exact Wk.cells_len
theorem YTr.all (h : YTr B N Y m) : ∀ i, i ≤ m → YAll B N (Y i) i
  | 0, _ => by
    rw [h.zero]
    have hz : ∀ j, (List.replicate (2 * N + 2 * B.T) (0 : Int)).getD j 0 = 0 := fun j => by
      rw [List.getD_eq_getElem?_getD, List.getElem?_replicate]
      split <;> rfl
    have hT := h.hT
    exact ⟨YOk.start _ _, by show ((List.replicate (2 * N + 2 * B.T) (0 : Int)).length : Int) = _; rw [List.length_replicate]; omega, AOk.start _ hz _, COk.start _ hz _, SOk.start _ hz _, YNum.start _ _⟩
  | i + 1, hi => by
    have ih := YTr.all h i (by omega)
    have hw := h.how i (by omega)
    have hv := h.mv i (by omega)
    have hf := h.fit i (by omega)
    have hfew := h.few
    exact ⟨ih.ok.next hv (by omega) hf, by rw [yard_len hv]; exact ih.len, ih.aok.next ih.ok h.cf h.hT ih.len hf hw, ih.cok.next ih.aok ih.ok h.cf h.hT ih.len hf hw,
      ih.sok.next ih.aok ih.cok ih.ok h.cf h.hT ih.len (by omega) hw, ih.num.next ih.ok hv⟩
/-- One more move. -/
theorem YTr.snoc (h : YTr B N Y m) {Z : Yd} (hw : YHow B N (Y m) Z) (hv : YMv (plOf B N) (Y m) Z) (hf : ∀ j, 0 ≤ Z.C.getD j 0 ∧ Z.C.getD j 0 ≤ 18446744073709551615) (hfew : m + 1 < 1000000) : YTr B N (fun i => if i ≤ m then Y i else Z) (m + 1) := by
  refine ⟨by show (if 0 ≤ m then Y 0 else Z) = _; rw [if_pos (Nat.zero_le _)]; exact h.zero, fun i hi => ?_, fun i hi => ?_, fun i hi j => ?_, h.cf, h.hT, hfew⟩
  · show YHow B N (if i ≤ m then Y i else Z) (if i + 1 ≤ m then Y (i + 1) else Z)
    rw [if_pos (by omega)]
    by_cases hq : i + 1 ≤ m
    · rw [if_pos hq]
      exact h.how i (by omega)
    · rw [if_neg hq]
      obtain rfl : i = m := by omega
      exact hw
  · show YMv _ (if i ≤ m then Y i else Z) (if i + 1 ≤ m then Y (i + 1) else Z)
    rw [if_pos (by omega)]
    by_cases hq : i + 1 ≤ m
    · rw [if_pos hq]
      exact h.mv i (by omega)
    · rw [if_neg hq]
      obtain rfl : i = m := by omega
      exact hv
  · show 0 ≤ (if i ≤ m then Y i else Z).C.getD j 0 ∧ (if i ≤ m then Y i else Z).C.getD j 0 ≤ _
    by_cases hq : i ≤ m
    · rw [if_pos hq]
      exact h.fit i hq j
    · rw [if_neg hq]
      exact hf j
theorem YTr.snoc_last (Y : Nat → Yd) (m : Nat) (Z : Yd) : (fun i => if i ≤ m then Y i else Z) (m + 1) = Z := by
  show (if m + 1 ≤ m then _ else _) = _
  rw [if_neg (by omega)]
/-- Words only rise. -/
theorem YTr.rise (h : YTr B N Y m) {j : Nat} (hj : j < N) : ∀ {a b : Nat}, a ≤ b → b ≤ m → rankW ((Y a).C.getD j 0) ≤ rankW ((Y b).C.getD j 0) ∧ (rankW ((Y a).C.getD j 0) = rankW ((Y b).C.getD j 0) → (Y a).C.getD j 0 = (Y b).C.getD j 0) := by
  intro a b hab hb
  induction b with
  | zero =>
    obtain rfl : a = 0 := by omega
    exact ⟨Int.le_refl _, fun _ => rfl⟩
  | succ b ih =>
    by_cases hq : a = b + 1
    · subst hq
      exact ⟨Int.le_refl _, fun _ => rfl⟩
    · obtain ⟨i1, i2⟩ := ih (by omega) (by omega)
      have h1 := h.all b (by omega)
      have h2 := h.all (b + 1) hb
      rcases words_rise h1.aok h2.aok h1.ok (h.mv b (by omega)) h1.len (h.fit b (by omega)) (h.fit (b + 1) hb) hj with hs | hs
      · rw [hs]
        exact ⟨i1, i2⟩
      · exact ⟨by omega, fun hh => by omega⟩
/-- A word that is the same at two times was so all the while. -/
theorem YTr.stays (h : YTr B N Y m) {j : Nat} (hj : j < N) {a b c : Nat} (hab : a ≤ b) (hbc : b ≤ c) (hc : c ≤ m) (he : (Y a).C.getD j 0 = (Y c).C.getD j 0) : (Y b).C.getD j 0 = (Y a).C.getD j 0 := by
  obtain ⟨p1, p2⟩ := h.rise hj hab (by omega)
  obtain ⟨q1, q2⟩ := h.rise hj hbc hc
  rw [← he] at q1
  exact (p2 (by omega)).symm
end
end Go.Proofs.YtpfjommkjkbonaaGreat
