/-
  Contracts of Apart, of the order that the statements reckon by themselves, of Least, and of the example at the head of every statement. No condition but that a list's length fits an int.
-/
import Derived.Test.YtlhacbhdajjkhaaStampCalls
import Derived.WalkKit
import Derived.WalkSpells
import Derived.WalkLawsBesides
import Derived.Deep.RegionHeld3
import Derived.Lib.Hide
import Derived.Deep.QuietTactic
import Derived.BigQuiet
namespace Go.Proofs.Ytlhacbhdajjkhaa
open Go.RowKit

def apartB (a b c d : Int) : Bool := decide (b < c) || decide (d < a)

set_option maxHeartbeats 400000 in
theorem apart_any (a b c d : Int) (w : World) :
    Calls Try.prog 18 #[st a b, st c d] w fun e w' => e = .returned (.bool (apartB a b c d)) ∧ Below w.heap.size w w' := by
  by_cases h : b < c
  · have hr : apartB a b c d = true := by simp [apartB, h]
    have Hr := Lib.hid hr; clear hr
    go_enter Try.func18, Try.ntmps18
    go_wp2_with (go_at_call 17; refine (before_any _ _ _ _ _).mono ?_; rintro e w' ⟨rfl, hb⟩)
    go_ret
    exact ⟨by rw [Hr.out]; rfl, (((Below.refl _ _).alloc (Nat.le_refl _) _).alloc (by simp) _).trans (hb.mono (by simp; omega))⟩
  · go_enter Try.func18, Try.ntmps18
    go_wp2_with fail
    refine (before_any _ _ _ _ _).mono ?_
    rintro e w1 ⟨rfl, hb⟩
    obtain ⟨hc, hf⟩ := bcell hb
    have hz := hb.size
    go_wp2_with fail
    refine (before_any _ _ _ _ _).mono ?_
    rintro e w2 ⟨rfl, hb2⟩
    go_wp2_with fail
    go_ret
    simp at hz
    exact ⟨rfl, ((((Below.refl _ _).alloc (Nat.le_refl _) _).alloc (by simp) _).trans (hb.mono (by simp; omega))).trans (hb2.mono (by omega))⟩

theorem cmpS_eq (a b c d : Int) : cmpS a b c d = if a < c ∨ a = c ∧ b < d then -1 else if a = c ∧ b = d then 0 else 1 := by
  unfold cmpS orI cmpI
  repeat' split
  all_goals omega

theorem cmpS_lt {a b c d : Int} (h : a < c ∨ a = c ∧ b < d) : cmpS a b c d = -1 := by rw [cmpS_eq]; exact if_pos h
theorem cmpS_gt {a b c d : Int} (h : c < a ∨ a = c ∧ d < b) : cmpS a b c d = 1 := by
  rw [cmpS_eq]
  repeat' split
  all_goals omega
theorem cmpS_same (a b : Int) : cmpS a b a b = 0 := by
  rw [cmpS_eq]
  repeat' split
  all_goals omega

set_option maxHeartbeats 400000 in
theorem lawcompare_any (a b c d : Int) (w : World) :
    Calls Try.prog 20 #[st a b, st c d] w fun e w' => e = .returned (i64 (cmpS a b c d)) ∧ Below w.heap.size w w' := by
  by_cases h1 : a < c
  · have Hr := Lib.hid (cmpS_lt (a := a) (b := b) (c := c) (d := d) (.inl h1))
    go_enter Try.func20, Try.ntmps20
    go_wp2
    go_ret
    exact ⟨by rw [Hr.out]; rfl, ((Below.refl _ _).alloc (Nat.le_refl _) _).alloc (by simp) _⟩
  · by_cases h2 : c < a
    · have Hr := Lib.hid (cmpS_gt (a := a) (b := b) (c := c) (d := d) (.inl h2))
      have k : (a == c) = false := by simp; omega
      go_enter Try.func20, Try.ntmps20
      go_wp2
      go_ret
      exact ⟨by rw [Hr.out]; rfl, ((Below.refl _ _).alloc (Nat.le_refl _) _).alloc (by simp) _⟩
    · obtain rfl : a = c := by omega
      by_cases h3 : b < d
      · have Hr := Lib.hid (cmpS_lt (a := a) (b := b) (c := a) (d := d) (.inr ⟨rfl, h3⟩))
        go_enter Try.func20, Try.ntmps20
        go_wp2
        go_ret
        exact ⟨by rw [Hr.out]; rfl, ((Below.refl _ _).alloc (Nat.le_refl _) _).alloc (by simp) _⟩
      · by_cases h4 : d < b
        · have Hr := Lib.hid (cmpS_gt (a := a) (b := b) (c := a) (d := d) (.inr ⟨rfl, h4⟩))
          have k : (b == d) = false := by simp; omega
          go_enter Try.func20, Try.ntmps20
          go_wp2
          go_ret
          exact ⟨by rw [Hr.out]; rfl, ((Below.refl _ _).alloc (Nat.le_refl _) _).alloc (by simp) _⟩
        · obtain rfl : b = d := by omega
          have Hr := Lib.hid (cmpS_same a b)
          go_enter Try.func20, Try.ntmps20
          go_wp2
          go_ret
          exact ⟨by rw [Hr.out]; rfl, ((Below.refl _ _).alloc (Nat.le_refl _) _).alloc (by simp) _⟩

def leastF (L H : Nat → Int) : Nat → Int
  | 0 => -1
  | n + 1 => if leastF L H n < 0 ∨ cmpS (L n) (H n) (L (leastF L H n).toNat) (H (leastF L H n).toNat) < 0 then n else leastF L H n

theorem leastF_step (L H : Nat → Int) (k : Nat) : leastF L H (k + 1) = if leastF L H k < 0 ∨ cmpS (L k) (H k) (L (leastF L H k).toNat) (H (leastF L H k).toNat) < 0 then (k : Int) else leastF L H k := rfl

theorem leastF_range (L H : Nat → Int) : ∀ n, -1 ≤ leastF L H n ∧ leastF L H n < n ∧ (0 < n → 0 ≤ leastF L H n)
  | 0 => by simp [leastF]
  | n + 1 => by
    have h := leastF_range L H n
    unfold leastF
    split
    · omega
    · rename_i h2
      have : ¬ leastF L H n < 0 := fun h3 => h2 (.inl h3)
      omega

set_option maxHeartbeats 400000 in
theorem least_any (L H : Nat → Int) (b off n cap : Nat) (hn : n ≤ 4611686018427387904) (w : World) (hc : ∀ i, i < n → w.cell? ⟨b, off + i * 2, none⟩ = some (i64 (L i)) ∧ w.cell? ⟨b, off + i * 2 + 1, none⟩ = some (i64 (H i))) :
    Calls Try.prog 22 #[.slice (some ⟨b, off, none⟩) n cap] w fun e w' => e = .returned (i64 (leastF L H n)) ∧ Below w.heap.size w w' := by
  go_enter Try.func22, Try.ntmps22
  go_wp2
  go_loopw [3, 8] (fun l i wr => ∃ k : Nat, k ≤ n ∧ i = .int .i64 k ∧ l = i64 (leastF L H k) ∧ Below w.heap.size w wr) (fun _ i _ => n - (intOf i).toNat)
  case atStart => exact ⟨0, by omega, rfl, rfl, Below.refl _ _⟩
  case round =>
    obtain ⟨k, hk, rfl, rfl, hb⟩ := hrel
    rcases Nat.lt_or_ge k n with h2 | h2
    · obtain ⟨q0, q1⟩ := hc k h2
      have q0' := cell_later hb q0
      have q1' := cell_later hb q1
      clear q0 q1
      have hr := leastF_range L H k
      have Hl := Lib.hid (leastF_step L H k)
      generalize hg : leastF L H k = l at *
      have Hg := Lib.hid hg; clear hg
      by_cases hl : l < 0
      · have hd : decide (l < 0) = true := by simp [hl]
        go_wp2_with fail
        go_quiet (fail)
        go_wp2
        go_roundw
        case rel => exact ⟨k + 1, by omega, by go_num, by rw [Hl.out, if_pos (.inl (by omega))], below_drewN (hb.alloc hb.size _) _⟩
        case measure => simp [intOf]; omega
      · have hd : decide (l < 0) = false := by simp [hl]
        obtain ⟨m, rfl⟩ := Int.eq_ofNat_of_zero_le (show 0 ≤ l by omega)
        obtain ⟨r0, r1⟩ := hc m (by omega)
        have r0' := cell_later hb r0
        have r1' := cell_later hb r1
        clear r0 r1
        have m0 : (0 : Int) ≤ (m : Int) := by omega
        have m1 : (m : Int) < (n : Int) := by omega
        go_wp2_with fail
        go_region_held3 (fun w' => w'.cell? ⟨wr.heap.size, 0, none⟩ = some (i64 (L k)) ∧ w'.cell? ⟨wr.heap.size, 1, none⟩ = some (i64 (H k)) ∧ w'.cell? ⟨b, off + m * 2, none⟩ = some (i64 (L m)) ∧ w'.cell? ⟨b, off + m * 2 + 1, none⟩ = some (i64 (H m))) (first | go_keep | (refine ⟨cell_later hb' ?_, cell_later hb' ?_, cell_later hb' ?_, cell_later hb' ?_⟩ <;> go_simp))
          (first | (go_at_call 19; refine (compare_any _ _ _ _ _).mono ?_; rintro e w' ⟨rfl, hb'⟩))
        all_goals go_wp2
        all_goals
          go_roundw
          case rel => exact ⟨k + 1, by omega, by go_num, by rw [Hl.out]; first | rw [if_pos (.inr ‹_›)] | rw [if_neg (by simp; omega)], (hb.alloc hb.size _).drew.trans (hb'.mono (by have := hb.size; simp; omega))⟩
          case measure => simp [intOf]; omega
    · obtain rfl : k = n := by omega
      go_wp2
      go_ret
      exact ⟨rfl, hb⟩

set_option maxHeartbeats 400000 in
theorem head1_any (w : World) : Calls Try.prog 15 #[] w fun e w' => e = .returned (.bool true) ∧ Below w.heap.size w w' := by
  have b3 : cmpS 2 5 5 9 = -1 := by decide
  have b4 : rightB 2 5 = true := by decide
  have b5 : leastF (fun _ => 2) (fun _ => 5) 2 = 0 := by decide
  have q0 : (w.alloc (.cells #[.int .i64 2, .int .i64 5] 23)).cell? ⟨w.heap.size, 0, none⟩ = some (i64 2) := by go_simp
  have q1 : (w.alloc (.cells #[.int .i64 2, .int .i64 5] 23)).cell? ⟨w.heap.size, 1, none⟩ = some (i64 5) := by go_simp
  go_enter Try.func15, Try.ntmps15
  go_wp2_with fail
  refine (before_any _ _ _ _ _).mono ?_
  rintro e w1 ⟨rfl, hb1⟩
  replace q0 := cell_later hb1 q0
  replace q1 := cell_later hb1 q1
  have hz1 := hb1.size
  go_wp2_with fail
  refine (before_any _ _ _ _ _).mono ?_
  rintro e w2 ⟨rfl, hb2⟩
  replace q0 := cell_later hb2 q0
  replace q1 := cell_later hb2 q1
  have hz2 := hb2.size
  go_wp2_with fail
  refine (compare_any _ _ _ _ _).mono ?_
  rintro e w3 ⟨rfl, hb3⟩
  replace q0 := cell_later hb3 q0
  replace q1 := cell_later hb3 q1
  have hz3 := hb3.size
  go_wp2_with fail
  refine (right_any _ _ _).mono ?_
  rintro e w4 ⟨rfl, hb4⟩
  replace q0 := cell_later hb4 q0
  replace q1 := cell_later hb4 q1
  have hz4 := hb4.size
  go_wp2_with fail
  refine (least_any (fun _ => 2) (fun _ => 5) _ 0 2 2 (by omega) _ ?hc).mono ?_
  case hc =>
    intro i hi
    obtain rfl | rfl : i = 0 ∨ i = 1 := by omega
    · exact ⟨by go_simp, by go_simp⟩
    · exact ⟨by go_simp, by go_simp⟩
  rintro e w5 ⟨rfl, hb5⟩
  go_wp2_with fail
  go_ret
  simp at hz1
  exact ⟨rfl, (((((((Below.refl _ _).alloc (Nat.le_refl _) _).trans (hb1.mono (by simp))).trans (hb2.mono (by omega))).trans (hb3.mono (by omega))).trans (hb4.mono (by omega))).alloc (by omega) _).trans (hb5.mono (by simp; omega))⟩

end Go.Proofs.Ytlhacbhdajjkhaa
