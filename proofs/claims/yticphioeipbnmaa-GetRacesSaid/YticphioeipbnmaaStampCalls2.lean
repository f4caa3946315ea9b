/-
  Contracts of Apart, of the order that the statements reckon by themselves, of Least, and of the example at the head of every statement. No condition but that a list's length fits an int.
-/
import Derived.Test.YticphioeipbnmaaStampCalls
import Derived.WalkKit
import Derived.WalkSpells
import Derived.WalkLawsBesides
import Derived.Deep.RegionHeld3
import Derived.Lib.Hide
import Derived.Deep.QuietTactic
import Derived.BigQuiet
namespace Go.Proofs.Yticphioeipbnmaa
open Go.RowKit

def apartB (a b c d : Int) : Bool := decide (b < c) || decide (d < a)

theorem cmpS_eq (a b c d : Int) : cmpS a b c d = if a < c ∨ a = c ∧ b < d then -1 else if a = c ∧ b = d then 0 else 1 := by
  unfold cmpS orI cmpI
  repeat' split
  all_goals omega

theorem cmpS_lt {a b c d : Int} (h : a < c ∨ a = c ∧ b < d) : cmpS a b c d = -1 := by rw [cmpS_eq]; exact if_pos h
theorem cmpS_gt {a b c d : Int} (h : c < a ∨ a = c ∧ d < b) : cmpS a b c d = 1 := by
  rw [cmpS_eq]
  repeat' split
  all_goals omega
theorem cmpS_same (a b : Int) : cmpS a b a b = 0 := by
  rw [cmpS_eq]
  repeat' split
  all_goals omega

set_option maxHeartbeats 400000 in
theorem lawcompare_any (a b c d : Int) (w : World) :
    Calls Try.prog 54 #[st a b, st c d] w fun e w' => e = .returned (i64 (cmpS a b c d)) ∧ Below w.heap.size w w' := by
  by_cases h1 : a < c
  · have Hr := Lib.hid (cmpS_lt (a := a) (b := b) (c := c) (d := d) (.inl h1))
    go_enter Try.func54, Try.ntmps54
    go_wp2
    go_ret
    exact ⟨by rw [Hr.out]; rfl, ((Below.refl _ _).alloc (Nat.le_refl _) _).alloc (by simp) _⟩
  · by_cases h2 : c < a
    · have Hr := Lib.hid (cmpS_gt (a := a) (b := b) (c := c) (d := d) (.inl h2))
      have k : (a == c) = false := by simp; omega
      go_enter Try.func54, Try.ntmps54
      go_wp2
      go_ret
      exact ⟨by rw [Hr.out]; rfl, ((Below.refl _ _).alloc (Nat.le_refl _) _).alloc (by simp) _⟩
    · obtain rfl : a = c := by omega
      by_cases h3 : b < d
      · have Hr := Lib.hid (cmpS_lt (a := a) (b := b) (c := a) (d := d) (.inr ⟨rfl, h3⟩))
        go_enter Try.func54, Try.ntmps54
        go_wp2
        go_ret
        exact ⟨by rw [Hr.out]; rfl, ((Below.refl _ _).alloc (Nat.le_refl _) _).alloc (by simp) _⟩
      · by_cases h4 : d < b
        · have Hr := Lib.hid (cmpS_gt (a := a) (b := b) (c := a) (d := d) (.inr ⟨rfl, h4⟩))
          have k : (b == d) = false := by simp; omega
          go_enter Try.func54, Try.ntmps54
          go_wp2
          go_ret
          exact ⟨by rw [Hr.out]; rfl, ((Below.refl _ _).alloc (Nat.le_refl _) _).alloc (by simp) _⟩
        · obtain rfl : b = d := by omega
          have Hr := Lib.hid (cmpS_same a b)
          go_enter Try.func54, Try.ntmps54
          go_wp2
          go_ret
          exact ⟨by rw [Hr.out]; rfl, ((Below.refl _ _).alloc (Nat.le_refl _) _).alloc (by simp) _⟩

def leastF (L H : Nat → Int) : Nat → Int
  | 0 => -1
  | n + 1 => if leastF L H n < 0 ∨ cmpS (L n) (H n) (L (leastF L H n).toNat) (H (leastF L H n).toNat) < 0 then n else leastF L H n

theorem leastF_step (L H : Nat → Int) (k : Nat) : leastF L H (k + 1) = if leastF L H k < 0 ∨ cmpS (L k) (H k) (L (leastF L H k).toNat) (H (leastF L H k).toNat) < 0 then (k : Int) else leastF L H k := rfl

theorem leastF_range (L H : Nat → Int) : ∀ n, -1 ≤ leastF L H n ∧ leastF L H n < n ∧ (0 < n → 0 ≤ leastF L H n)
  | 0 => by simp [leastF]
  | n + 1 => by
    have h := leastF_range L H n
    unfold leastF
    split
    · omega
    · rename_i h2
      have : ¬ leastF L H n < 0 := fun h3 => h2 (.inl h3)
      omega

end Go.Proofs.Yticphioeipbnmaa
