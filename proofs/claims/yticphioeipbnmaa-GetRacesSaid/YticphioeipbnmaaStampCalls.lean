/-
  Contracts of the functions of package stamp: what each call answers, and that it leaves all memory that was there as it was. No condition.
-/
import Derived.Test.YticphioeipbnmaaProg
import Derived.Test.YticphioeipbnmaaBase
import Derived.WalkKit
import Derived.WalkSpells
import Derived.WalkLawsBesides
import Derived.Deep.RegionHeld3
import Derived.Deep.DeepCutAuto
import Derived.Lib.Hide
namespace Go.Proofs.Yticphioeipbnmaa
open Go.RowKit

def rightB (a b : Int) : Bool := decide (0 ≤ a ∧ a ≤ b ∧ b < 16777215)

/-- cmp.Compare on ints. -/
def cmpI (a b : Int) : Int := if a < b then -1 else if b < a then 1 else 0

set_option maxHeartbeats 400000 in
theorem cmpint_any (a b : Int) (w : World) :
    Calls Try.prog 62 #[i64 a, i64 b] w fun e w' => e = .returned (i64 (cmpI a b)) ∧ w = w' := by
  by_cases h1 : a < b
  · have hr : cmpI a b = -1 := by simp [cmpI, h1]
    have Hr := Lib.hid hr; clear hr
    go_enter Try.func62, Try.ntmps62
    go_wp2
    go_ret
    exact ⟨by rw [Hr.out]; rfl, rfl⟩
  · by_cases h2 : b < a
    · have hr : cmpI a b = 1 := by simp [cmpI, h1, h2]
      have Hr := Lib.hid hr; clear hr
      go_enter Try.func62, Try.ntmps62
      go_wp2
      go_ret
      exact ⟨by rw [Hr.out]; rfl, rfl⟩
    · have hr : cmpI a b = 0 := by simp [cmpI, h1, h2]
      have Hr := Lib.hid hr; clear hr
      go_enter Try.func62, Try.ntmps62
      go_wp2
      go_ret
      exact ⟨by rw [Hr.out]; rfl, rfl⟩

/-- cmp.Or of two ints. -/
def orI (x y : Int) : Int := if x = 0 then y else x

set_option maxHeartbeats 400000 in
theorem or_any (x y : Int) (b : Nat) (w : World) (h0 : w.cell? ⟨b, 0, none⟩ = some (i64 x)) (h1 : w.cell? ⟨b, 1, none⟩ = some (i64 y)) :
    Calls Try.prog 60 #[.slice (some ⟨b, 0, none⟩) 2 2] w fun e w' => e = .returned (i64 (orI x y)) ∧ Below w.heap.size w w' := by
  go_enter Try.func60, Try.ntmps60
  go_wp2
  go_loop [8] (fun i => ∃ k : Nat, k ≤ 2 ∧ i = .int .i64 k ∧ Hid ((1 ≤ k → x = 0) ∧ (2 ≤ k → y = 0))) (fun i => 2 - (intOf i).toNat)
  case atStart => exact ⟨0, by omega, rfl, ⟨by omega, by omega⟩⟩
  case round =>
    obtain ⟨k, hk, rfl, hz⟩ := hrel
    rcases Nat.lt_or_ge k 2 with h2 | h2
    · rcases Nat.lt_or_ge k 1 with h3 | h3
      · obtain rfl : k = 0 := by omega
        by_cases hx : x = 0
        · have hx' : (x != 0) = false := by simp [hx]
          have Hx := Lib.hid hx; clear hx
          go_wp2
          go_round
          case rel => exact ⟨1, by omega, rfl, ⟨fun _ => Hx.out, by omega⟩⟩
          case measure => simp [intOf]
        · have hx' : (x != 0) = true := by simp [hx]
          have Hx := Lib.hid hx; clear hx
          go_wp2
          go_ret
          exact ⟨by unfold orI; rw [if_neg Hx.out]; rfl, Below.refl _ _⟩
      · obtain rfl : k = 1 := by omega
        have Hz := hz.out.1 (by omega)
        have HZ := Lib.hid Hz; clear Hz
        by_cases hx : y = 0
        · have hx' : (y != 0) = false := by simp [hx]
          have Hx := Lib.hid hx; clear hx
          go_wp2
          go_round
          case rel => exact ⟨2, by omega, rfl, ⟨fun _ => HZ.out, fun _ => Hx.out⟩⟩
          case measure => simp [intOf]
        · have hx' : (y != 0) = true := by simp [hx]
          have Hx := Lib.hid hx; clear hx
          go_wp2
          go_ret
          exact ⟨by unfold orI; rw [if_pos HZ.out]; rfl, Below.refl _ _⟩
    · obtain rfl : k = 2 := by omega
      go_wp2
      go_ret
      exact ⟨by unfold orI; rw [if_pos (hz.out.1 (by omega)), hz.out.2 (by omega)]; rfl, Below.refl _ _⟩

/-- The order of stamps. -/
def cmpS (a b c d : Int) : Int := orI (cmpI a c) (cmpI b d)

set_option maxHeartbeats 400000 in
theorem compare_any (a b c d : Int) (w : World) :
    Calls Try.prog 61 #[st a b, st c d] w fun e w' => e = .returned (i64 (cmpS a b c d)) ∧ Below w.heap.size w w' := by
  go_enter Try.func61, Try.ntmps61
  go_wp2
  go_region_held3 (fun w' => w'.cell? ⟨w.heap.size, 0, none⟩ = some (i64 a) ∧ w'.cell? ⟨w.heap.size, 1, none⟩ = some (i64 b) ∧ w'.cell? ⟨w.heap.size + 1, 0, none⟩ = some (i64 c) ∧ w'.cell? ⟨w.heap.size + 1, 1, none⟩ = some (i64 d)) (first | go_keep | (refine ⟨cell_later hb ?_, cell_later hb ?_, cell_later hb ?_, cell_later hb ?_⟩ <;> go_simp))
    (first | (go_at_call 62; refine (cmpint_any _ _ _).mono ?_; rintro e w' ⟨rfl, rfl⟩) | (go_at_call 60; refine (or_any (cmpI a c) (cmpI b d) _ _ ?h0 ?h1).mono ?hm; (case h0 => go_simp); (case h1 => go_simp); rintro e w' ⟨rfl, hb⟩))
  all_goals
    go_wp2
    go_ret
    exact ⟨rfl, ((((Below.refl _ _).alloc (Nat.le_refl _) _).alloc (by simp) _).alloc (by simp; omega) _).drew.trans (hb.mono (by simp; omega))⟩

def minZ (a c : Int) : Int := min a c
def maxZ (a c : Int) : Int := max a c

end Go.Proofs.Yticphioeipbnmaa
