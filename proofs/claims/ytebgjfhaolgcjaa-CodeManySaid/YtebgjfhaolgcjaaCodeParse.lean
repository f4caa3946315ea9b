/-
  What a reader reads of bytes: a call, a move; it is right just where a move's bytes stand. No Go. No condition.
-/
import Derived.Test.YtebgjfhaolgcjaaCodePure
namespace Go.Proofs.Ytebgjfhaolgcjaa
open Go.RowKit
set_option linter.unusedVariables false

def rdCall : List Int → Option (Int × Int × Int × Int × Nat)
  | [] => none
  | how :: r => if how % 2 = 0 then (if 8 ≤ r.length then some (how % 2, how / 2, un8 (r.take 8), 0, 9) else none) else match r with
    | [] => none
    | s :: _ => some (how % 2, how / 2, 0, s, 2)
def rdMove : List Int → Option (CM × Nat)
  | [] => none
  | k :: r => if k = 0 then (match r with
      | [] => none
      | who :: r2 => match rdCall r2 with
        | none => none
        | some (ck, ce, v, s, n) => some (⟨0, who, ck, ce, v, s, 0⟩, n + 2))
    else if k = 1 then (match r with
      | [] => none
      | who :: _ => some (⟨1, who, 0, 0, 0, 0, 0⟩, 2))
    else if k = 2 then (if 2 ≤ r.length then some (⟨2, 0, 0, 0, 0, 0, un8 (r.take 2)⟩, 3) else none)
    else some (⟨k, 0, 0, 0, 0, 0, 0⟩, 1)
theorem le8_take {l : List Int} {n : Nat} (hl : ∀ b ∈ l, 0 ≤ b ∧ b ≤ 255) (h : n ≤ l.length) : le8 n (un8 (l.take n)) ++ l.drop n = l := by
  have h1 := le8_un8 (l.take n) (fun b hb => hl b (List.mem_of_mem_take hb))
  rw [List.length_take, Nat.min_eq_left h] at h1
  rw [h1, List.take_append_drop]
theorem rdCall_enc {l : List Int} (hl : ∀ b ∈ l, 0 ≤ b ∧ b ≤ 255) {ck ce v s : Int} {n : Nat} (h : rdCall l = some (ck, ce, v, s, n)) :
    ∃ r, l = ((ck + 2 * ce) :: (if ck = 0 then le8 8 v else [s])) ++ r ∧ n = ((ck + 2 * ce) :: (if ck = 0 then le8 8 v else [s])).length ∧ 0 ≤ v ∧ v ≤ 18446744073709551615 ∧ (ck = 0 → s = 0) ∧ (ck ≠ 0 → v = 0 ∧ ck = 1 ∧ 0 ≤ s ∧ s ≤ 255) := by
  cases l with
  | nil => cases h
  | cons how r =>
    have hb := hl how List.mem_cons_self
    have hr : ∀ b ∈ r, 0 ≤ b ∧ b ≤ 255 := fun b hb => hl b (List.mem_cons_of_mem _ hb)
    unfold rdCall at h
    dsimp only at h
    by_cases h0 : how % 2 = 0
    · rw [if_pos h0] at h
      by_cases h8 : 8 ≤ r.length
      · rw [if_pos h8] at h
        simp only [Option.some.injEq, Prod.mk.injEq] at h
        obtain ⟨rfl, rfl, rfl, rfl, rfl⟩ := h
        have hf := un8_fit (r.take 8) (fun b hb => hr b (List.mem_of_mem_take hb))
        rw [List.length_take, Nat.min_eq_left h8] at hf
        have h256 : (256 : Int) ^ 8 = 18446744073709551616 := by decide
        refine ⟨r.drop 8, ?_, ?_, by omega, by omega, fun _ => rfl, fun hn => absurd h0 hn⟩
        · rw [if_pos h0, List.cons_append, le8_take hr h8]
          congr 1
          omega
        · rw [if_pos h0, List.length_cons, le8_len]
      · rw [if_neg h8] at h
        cases h
    · rw [if_neg h0] at h
      cases r with
      | nil => cases h
      | cons s' r' =>
        simp only [Option.some.injEq, Prod.mk.injEq] at h
        obtain ⟨rfl, rfl, rfl, rfl, rfl⟩ := h
        have hs := hr s' List.mem_cons_self
        refine ⟨r', ?_, ?_, by omega, by omega, fun hn => absurd hn h0, fun _ => ⟨rfl, by omega, hs.1, hs.2⟩⟩
        · rw [if_neg h0, List.cons_append, List.cons_append, List.nil_append]
          congr 1
          omega
        · rw [if_neg h0]
          rfl
/-- What is read, and right, is a move's bytes. -/
theorem rdMove_enc {l : List Int} (hl : ∀ b ∈ l, 0 ≤ b ∧ b ≤ 255) {m : CM} {n : Nat} (h : rdMove l = some (m, n)) (hm : m.Right) : m.Good ∧ ∃ r, l = m.enc ++ r ∧ n = m.enc.length := by
  cases l with
  | nil => cases h
  | cons k r =>
    have hr : ∀ b ∈ r, 0 ≤ b ∧ b ≤ 255 := fun b hb => hl b (List.mem_cons_of_mem _ hb)
    unfold rdMove at h
    dsimp only at h
    by_cases k0 : k = 0
    · rw [if_pos k0] at h
      cases r with
      | nil => cases h
      | cons who r2 =>
        simp only at h
        cases hc : rdCall r2 with
        | none =>
          rw [hc] at h
          cases h
        | some x =>
          obtain ⟨ck, ce, v, s, q⟩ := x
          rw [hc] at h
          simp only [Option.some.injEq, Prod.mk.injEq] at h
          obtain ⟨rfl, rfl⟩ := h
          obtain ⟨r', h1, h2, h3, h4, _⟩ := rdCall_enc (fun b hb => hr b (List.mem_cons_of_mem _ hb)) hc
          refine ⟨⟨hm, h3, h4⟩, r', ?_, ?_⟩
          · unfold CM.enc
            simp only
            rw [if_neg (by decide), if_neg (by decide), h1, k0]
            rfl
          · unfold CM.enc
            simp only
            rw [if_neg (by decide), if_neg (by decide), h2]
            rfl
    · rw [if_neg k0] at h
      by_cases k1 : k = 1
      · rw [if_pos k1] at h
        cases r with
        | nil => cases h
        | cons who r2 =>
          simp only [Option.some.injEq, Prod.mk.injEq] at h
          obtain ⟨rfl, rfl⟩ := h
          refine ⟨⟨hm, by show (0 : Int) ≤ 0; decide, by show (0 : Int) ≤ _; decide⟩, r2, ?_, ?_⟩
          · rw [k1]
            rfl
          · rfl
      · rw [if_neg k1] at h
        by_cases k2 : k = 2
        · rw [if_pos k2] at h
          by_cases h2 : 2 ≤ r.length
          · rw [if_pos h2] at h
            simp only [Option.some.injEq, Prod.mk.injEq] at h
            obtain ⟨rfl, rfl⟩ := h
            refine ⟨⟨hm, by show (0 : Int) ≤ 0; decide, by show (0 : Int) ≤ _; decide⟩, r.drop 2, ?_, ?_⟩
            · show k :: r = (2 :: le8 2 (un8 (r.take 2))) ++ r.drop 2
              rw [List.cons_append, le8_take hr h2, k2]
            · show 3 = (2 :: le8 2 (un8 (r.take 2))).length
              rw [List.length_cons, le8_len]
          · rw [if_neg h2] at h
            cases h
        · rw [if_neg k2] at h
          simp only [Option.some.injEq, Prod.mk.injEq] at h
          obtain ⟨rfl, rfl⟩ := h
          rcases hm with hm | hm | hm
          · exact absurd hm.1 k0
          · exact absurd hm.1 k1
          · exact absurd hm.1 k2
/-- A move's bytes are read. -/
theorem enc_rdMove {m : CM} (hm : m.Good) (r : List Int) : rdMove (m.enc ++ r) = some (m, m.enc.length) := by
  obtain ⟨k, who, ck, ce, v, s, n⟩ := m
  obtain ⟨hr, v0, v1⟩ := hm
  simp only at v0 v1
  unfold CM.Right CM.beg CM.stp CM.pas at hr
  simp only at hr
  unfold CM.enc
  simp only
  by_cases k1 : k = 1
  · rw [if_pos k1]
    show some ((⟨1, who, 0, 0, 0, 0, 0⟩ : CM), 2) = some ((⟨k, who, ck, ce, v, s, n⟩ : CM), 2)
    rw [Option.some.injEq, Prod.mk.injEq, CM.mk.injEq]
    omega
  · rw [if_neg k1]
    by_cases k2 : k = 2
    · rw [if_pos k2, List.cons_append]
      show (if 2 ≤ (le8 2 n ++ r).length then some ((⟨2, 0, 0, 0, 0, 0, un8 ((le8 2 n ++ r).take 2)⟩ : CM), 3) else none) = _
      have hlen : (le8 2 n).length = 2 := le8_len 2 n
      have ht : (le8 2 n ++ r).take 2 = le8 2 n := by rw [List.take_append_of_le_length (by omega), List.take_of_length_le (by omega)]
      have h256 : (256 : Int) ^ 2 = 65536 := by decide
      rw [if_pos (by rw [List.length_append]; omega), ht, un8_le8 2 n (by omega) (by omega), List.length_cons, hlen, Option.some.injEq, Prod.mk.injEq, CM.mk.injEq]
      omega
    · rw [if_neg k2]
      have k0 : k = 0 := by omega
      subst k0
      by_cases c0 : ck = 0
      · rw [if_pos c0]
        have hlen : (le8 8 v).length = 8 := le8_len 8 v
        have ht : (le8 8 v ++ r).take 8 = le8 8 v := by rw [List.take_append_of_le_length (by omega), List.take_of_length_le (by omega)]
        have h256 : (256 : Int) ^ 8 = 18446744073709551616 := by decide
        have hc : rdCall ((ck + 2 * ce) :: (le8 8 v ++ r)) = some ((ck + 2 * ce) % 2, (ck + 2 * ce) / 2, v, 0, 9) := by
          unfold rdCall
          dsimp only
          rw [if_pos (by omega), if_pos (by rw [List.length_append]; omega), ht, un8_le8 8 v v0 (by omega)]
        show (match rdCall ((ck + 2 * ce) :: (le8 8 v ++ r)) with
          | none => none
          | some (ck, ce, v, s, n) => some ((⟨0, who, ck, ce, v, s, 0⟩ : CM), n + 2)) = _
        rw [hc]
        dsimp only
        rw [Option.some.injEq, Prod.mk.injEq, CM.mk.injEq]
        exact ⟨⟨rfl, rfl, by omega, by omega, rfl, by omega, by omega⟩, by simp [hlen]⟩
      · rw [if_neg c0]
        have hc : rdCall ((ck + 2 * ce) :: ([s] ++ r)) = some ((ck + 2 * ce) % 2, (ck + 2 * ce) / 2, 0, s, 2) := by
          unfold rdCall
          dsimp only
          rw [if_neg (by omega)]
          rfl
        show (match rdCall ((ck + 2 * ce) :: ([s] ++ r)) with
          | none => none
          | some (ck, ce, v, s, n) => some ((⟨0, who, ck, ce, v, s, 0⟩ : CM), n + 2)) = _
        rw [hc]
        dsimp only
        rw [Option.some.injEq, Prod.mk.injEq, CM.mk.injEq]
        exact ⟨⟨rfl, rfl, by omega, by omega, by omega, rfl, by omega⟩, rfl⟩
end Go.Proofs.Ytebgjfhaolgcjaa
