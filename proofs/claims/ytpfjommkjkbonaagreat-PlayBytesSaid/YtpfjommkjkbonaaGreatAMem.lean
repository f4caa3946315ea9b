/-
  Contracts of the functions of package lay: what each call answers, and that it leaves all memory that was there as it was. No condition but that the layout is a right one, where a number is reckoned of it.
  Contracts of the functions of package stamp: what each call answers, and that it leaves all memory that was there as it was. No condition.
  Contracts of Apart, of the order that the statements reckon by themselves, of Least, and of the example at the head of every statement. No condition but that a list's length fits an int.
  Contracts of the functions of package word: what each call answers, and that it leaves all memory that was there as it was. No condition but that numbers fit their kinds.
  Contracts of Taken, Next, and of what the statements ask of a word by themselves. No condition.
  What is known of cells that are shared (package mem), between two calls. No condition.
  Plain lemmas, over any program: several things that a call holds, cells among them. No condition.
  Plain lemmas that several layers' laws have in common: a layout of four by four at most, several things held, masks, a word's first part. No condition.
  Plain lemmas on worlds that only grow: blocks behind all that was there, and draws. Contracts of what an order of places calls, in these words. No condition but that numbers fit their kinds.
  Contracts of the functions of package mem: what each call answers, what the cells are then, and what is noted. No condition but that numbers fit their kinds.
  Contracts of the exported functions of package mem: what each call answers, what the cells are then, and what is noted. No condition but that numbers fit their kinds.
  Contracts of Log (a new list of all that was noted) and of what package stackyardlaw03 has beside its statements. No condition but that numbers fit their kinds.
  MemSizes and MemWraps answer true for all numbers, and leave all memory that was there as it was. No condition.
  MemSums and MemRaces answer true for every list of numbers, and leave all memory that was there as it was. No condition.
-/
import Derived.Test.YtpfjommkjkbonaaGreatProg
import Derived.Test.YtpfjommkjkbonaaGreatAKit
import Derived.IntWalk
import Derived.WalkKit
import Derived.WalkSpells
import Derived.WalkLawsBesides
import Derived.Deep.RegionHeld3
import Derived.Deep.DeepCutAuto
import Derived.Lib.Hide
import Derived.Deep.QuietTactic
import Derived.BigQuiet
import Derived.Sort.Grow
import Derived.BigRegion
import Derived.OpenShut
namespace Go.Proofs.YtpfjommkjkbonaaGreat
section
open Go.RowKit
set_option linter.unusedVariables false

abbrev cf (t s so d : Int) : Value := .agg #[.int .i64 t, .int .i64 s, .int .i64 so, .int .i64 d]

def rightC (t s so d : Int) : Bool := decide (1 ≤ t ∧ t ≤ 64 ∧ 1 ≤ s ∧ s ≤ 64 ∧ 0 ≤ so ∧ so ≤ 4 ∧ 0 ≤ d ∧ d ≤ 100)

/-- A layout's number of places, between its bounds. -/
structure Lay (t s n : Int) : Prop where
  eq : t * s = n
  t1 : 1 ≤ t
  t2 : t ≤ 64
  s1 : 1 ≤ s
  s2 : s ≤ 64
  n1 : t ≤ n
  n2 : n ≤ 4096
  n3 : s ≤ n

theorem Lay.mk' {t s : Int} (t1 : 1 ≤ t) (t2 : t ≤ 64) (s1 : 1 ≤ s) (s2 : s ≤ 64) : Lay t s (t * s) :=
  ⟨rfl, t1, t2, s1, s2, by have := Int.mul_le_mul_of_nonneg_left s1 (by omega : 0 ≤ t); omega, by have := Int.mul_le_mul t2 s2 (by omega) (by omega); omega, by have := Int.mul_le_mul_of_nonneg_right t1 (by omega : 0 ≤ s); omega⟩

theorem Lay.wrap {t s n : Int} (h : Lay t s n) : wrap64 (t * s) = n := by
  rw [h.eq]
  have := h.n1; have := h.n2; have := h.t1
  unfold wrap64
  omega

set_option maxHeartbeats 1000000 in
theorem cright_any (t s so d : Int) (w : World) :
    Calls Tryz.prog 14 #[cf t s so d] w fun r w' => r = .returned (.bool (rightC t s so d)) ∧ Below w.heap.size w w' := by
  go_enter Tryz.func14, Tryz.ntmps14
  go_wp2
  all_goals
    go_ret
    refine ⟨?_, below_new (Below.refl _ _) _⟩
    first
      | (rw [show rightC t s so d = false from decide_eq_false (by omega)]; rfl)
      | (rw [show rightC t s so d = decide (d ≤ 100) from decide_eq_decide.2 (by omega)]; rfl)

theorem ret_bool {a : Bool} (h : a = true) : Ending.returned (.bool a) = .returned (.bool true) := by rw [h]
theorem ret_i64 {a b : Int} (h : a = b) : Ending.returned (.int .i64 a) = .returned (.int .i64 b) := by rw [h]

set_option maxHeartbeats 1000000 in
theorem call_any (t s so d n : Int) (w : World) (h : Lay t s n) :
    Calls Tryz.prog 57 #[cf t s so d] w fun r w' => r = .returned (i64 n) ∧ Below w.heap.size w w' := by
  have hw := h.wrap
  have Hw := Lib.hid hw
  clear hw
  go_enter Tryz.func57, Tryz.ntmps57
  go_wp2
  go_ret
  exact ⟨ret_i64 Hw.out, below_new (Below.refl _ _) _⟩

set_option maxHeartbeats 1000000 in
theorem cfirst_any (t s so d n i m : Int) (w : World) (h : Lay t s n) (i0 : 0 ≤ i) (i1 : i < t) (him : i * s = m) (m0 : 0 ≤ m) (m1 : m ≤ n) :
    Calls Tryz.prog 97 #[cf t s so d, i64 i] w fun r w' => r = .returned (i64 m) ∧ Below w.heap.size w w' := by
  have hw : wrap64 (i * s) = m := by have := h.n2; rw [him]; unfold wrap64; omega
  have Hw := Lib.hid hw
  clear hw him
  go_enter Tryz.func97, Tryz.ntmps97
  go_wp2
  go_ret
  exact ⟨ret_i64 Hw.out, below_new (Below.refl _ _) _⟩

set_option maxHeartbeats 1000000 in
theorem cword_any (t s so d i : Int) (w : World) :
    Calls Tryz.prog 92 #[cf t s so d, i64 i] w fun r w' => r = .returned (i64 i) ∧ Below w.heap.size w w' := by
  go_enter Tryz.func92, Tryz.ntmps92
  go_wp2
  go_ret
  first | exact ⟨rfl, below_new (Below.refl _ _) _⟩ | exact ⟨rfl, Below.refl _ _⟩

set_option maxHeartbeats 1000000 in
theorem cvalue_any (t s so d n i : Int) (w : World) (h : Lay t s n) (i0 : 0 ≤ i) (i1 : i ≤ n) :
    Calls Tryz.prog 87 #[cf t s so d, i64 i] w fun r w' => r = .returned (i64 (n + i)) ∧ Below w.heap.size w w' := by
  have hn1 := h.n1; have hn2 := h.n2; have ht1 := h.t1
  go_enter Tryz.func87, Tryz.ntmps87
  have hB := Below.refl (w.alloc (.cells #[.int .i64 t, .int .i64 s, .int .i64 so, .int .i64 d] 24)).heap.size (w.alloc (.cells #[.int .i64 t, .int .i64 s, .int .i64 so, .int .i64 d] 24))
  go_wp2_with (first | (go_at_call 57; refine (call_any _ _ _ _ n _ h).mono ?_; rintro e w' ⟨rfl, hb'⟩; (first | replace hB := below_step hB hb' | replace hB := below_step (below_new hB _) hb'); clear hb'; (try clear hk); have hk := below_rule hB))
  go_ret
  exact ⟨rfl, below_step (below_new (Below.refl _ _) _) hB⟩

set_option maxHeartbeats 1000000 in
theorem chazard_any (t s so d n i : Int) (w : World) (h : Lay t s n) (i0 : 0 ≤ i) (i1 : i ≤ t) :
    Calls Tryz.prog 115 #[cf t s so d, i64 i] w fun r w' => r = .returned (i64 (2 * n + i)) ∧ Below w.heap.size w w' := by
  have hn1 := h.n1; have hn2 := h.n2; have ht1 := h.t1; have ht2 := h.t2
  go_enter Tryz.func115, Tryz.ntmps115
  have hB := Below.refl (w.alloc (.cells #[.int .i64 t, .int .i64 s, .int .i64 so, .int .i64 d] 24)).heap.size (w.alloc (.cells #[.int .i64 t, .int .i64 s, .int .i64 so, .int .i64 d] 24))
  go_wp2_with (first | (go_at_call 57; refine (call_any _ _ _ _ n _ h).mono ?_; rintro e w' ⟨rfl, hb'⟩; (first | replace hB := below_step hB hb' | replace hB := below_step (below_new hB _) hb'); clear hb'; (try clear hk); have hk := below_rule hB))
  go_ret
  exact ⟨rfl, below_step (below_new (Below.refl _ _) _) hB⟩

set_option maxHeartbeats 1000000 in
theorem cnumber_any (t s so d n i : Int) (w : World) (h : Lay t s n) (i0 : 0 ≤ i) (i1 : i ≤ t) :
    Calls Tryz.prog 118 #[cf t s so d, i64 i] w fun r w' => r = .returned (i64 (2 * n + t + i)) ∧ Below w.heap.size w w' := by
  have hn1 := h.n1; have hn2 := h.n2; have ht1 := h.t1; have ht2 := h.t2
  go_enter Tryz.func118, Tryz.ntmps118
  go_wp2_with fail
  refine wp_region_seq ((0, true) :: (3, true) :: (4, true) :: (6, true) :: (1, false) :: (2, true) :: (5, true) :: (7, true) :: (8, true) :: []) (by kernel_rfl) (by kernel_rfl) (by kernel_rfl) (by decide) (fun _ _ _ _ _ h => h) (fun hHeld => ?_)
  repeat (first
    | (refine seq_take (v := ?_) rfl ?_ ?_ ?_; rotate_left 1; rfl; (focus (intro wS hSw; have hk := below_rule hSw; go_simp; first | done | with_reducible rfl)); (try simp only [Act.put, List.setIfInBounds_toArray, List.set_cons_zero, List.set_cons_succ]))
    | (refine seq_skip rfl ?_ ?_; rfl; (try simp only [Act.put, List.setIfInBounds_toArray, List.set_cons_zero, List.set_cons_succ]))
    | (refine seq_run rfl (fun K hK => ?_); go_simp; (try (first | (go_at_call 57; refine (call_any _ _ _ _ n _ h).mono ?_; rintro e w' ⟨rfl, hb'⟩))); (try go_wp2_with fail); refine hK.out _ _ ?_ ?_; (focus (first | exact below_step hHeld hb' | exact below_new hHeld _ | exact hHeld)); (try clear hb'); clear hHeld hK K; intro hHeld; (try simp only [Act.put, List.setIfInBounds_toArray, List.set_cons_zero, List.set_cons_succ])))
  first | refine seq_done ?_ | skip
  go_wp2
  go_ret
  exact ⟨ret_i64 (by rw [IntWalk.i64_in (2 * n) (by omega), IntWalk.i64_in (2 * n + t) (by omega), IntWalk.i64_in (2 * n + t + i) (by omega)]), below_step (below_new (Below.refl _ _) _) hHeld⟩

set_option maxHeartbeats 1000000 in
theorem ccells_any (t s so d n : Int) (w : World) (h : Lay t s n) :
    Calls Tryz.prog 37 #[cf t s so d] w fun r w' => r = .returned (i64 (2 * n + 2 * t)) ∧ Below w.heap.size w w' := by
  have hn1 := h.n1; have hn2 := h.n2; have ht1 := h.t1; have ht2 := h.t2
  go_enter Tryz.func37, Tryz.ntmps37
  go_wp2_with fail
  refine wp_region_seq ((0, true) :: (3, true) :: (4, true) :: (5, true) :: (1, false) :: (2, true) :: (6, true) :: (7, true) :: []) (by kernel_rfl) (by kernel_rfl) (by kernel_rfl) (by decide) (fun _ _ _ _ _ h => h) (fun hHeld => ?_)
  repeat (first
    | (refine seq_take (v := ?_) rfl ?_ ?_ ?_; rotate_left 1; rfl; (focus (intro wS hSw; have hk := below_rule hSw; go_simp; first | done | with_reducible rfl)); (try simp only [Act.put, List.setIfInBounds_toArray, List.set_cons_zero, List.set_cons_succ]))
    | (refine seq_skip rfl ?_ ?_; rfl; (try simp only [Act.put, List.setIfInBounds_toArray, List.set_cons_zero, List.set_cons_succ]))
    | (refine seq_run rfl (fun K hK => ?_); go_simp; (try (first | (go_at_call 57; refine (call_any _ _ _ _ n _ h).mono ?_; rintro e w' ⟨rfl, hb'⟩))); (try go_wp2_with fail); refine hK.out _ _ ?_ ?_; (focus (first | exact below_step hHeld hb' | exact below_new hHeld _ | exact hHeld)); (try clear hb'); clear hHeld hK K; intro hHeld; (try simp only [Act.put, List.setIfInBounds_toArray, List.set_cons_zero, List.set_cons_succ])))
  first | refine seq_done ?_ | skip
  go_wp2
  go_ret
  exact ⟨ret_i64 (by rw [IntWalk.i64_in (2 * n) (by omega), IntWalk.i64_in (2 * t) (by omega), IntWalk.i64_in (2 * n + 2 * t) (by omega)]), below_step (below_new (Below.refl _ _) _) hHeld⟩

/-- What a cell is for: its kind k, and of which place or thread (x). -/
def KindC (t n c k x : Int) : Prop :=
  ((c < 0 ∨ 2 * n + 2 * t ≤ c) ∧ k = 0 ∧ x = 0) ∨ (0 ≤ c ∧ c < n ∧ k = 1 ∧ x = c) ∨ (n ≤ c ∧ c < 2 * n ∧ k = 2 ∧ x = c - n) ∨ (2 * n ≤ c ∧ c < 2 * n + t ∧ k = 3 ∧ x = c - 2 * n) ∨ (2 * n + t ≤ c ∧ c < 2 * n + 2 * t ∧ k = 4 ∧ x = c - (2 * n + t))

theorem lay23 : Lay 2 3 6 := ⟨rfl, by omega, by omega, by omega, by omega, by omega, by omega, by omega⟩

end

section
open Go.RowKit

def rightB (a b : Int) : Bool := decide (0 ≤ a ∧ a ≤ b ∧ b < 16777215)

set_option maxHeartbeats 400000 in
theorem right_any (a b : Int) (w : World) :
    Calls Tryz.prog 130 #[st a b] w fun e w' => e = .returned (.bool (rightB a b)) ∧ Below w.heap.size w w' := by
  by_cases h1 : 0 ≤ a
  · by_cases h2 : a ≤ b
    · by_cases h3 : b < 16777215
      · have hr : rightB a b = true := by simp [rightB, h1, h2, h3]
        have Hr := Lib.hid hr; clear hr
        go_enter Tryz.func130, Tryz.ntmps130
        go_wp2
        go_ret
        exact ⟨by rw [Hr.out]; rfl, (Below.refl _ _).alloc (Nat.le_refl _) _⟩
      · have hr : rightB a b = false := by simp [rightB, h3]
        have Hr := Lib.hid hr; clear hr
        go_enter Tryz.func130, Tryz.ntmps130
        go_wp2
        go_ret
        exact ⟨by rw [Hr.out]; rfl, (Below.refl _ _).alloc (Nat.le_refl _) _⟩
    · have hr : rightB a b = false := by simp [rightB, h2]
      have Hr := Lib.hid hr; clear hr
      go_enter Tryz.func130, Tryz.ntmps130
      go_wp2
      go_ret
      exact ⟨by rw [Hr.out]; rfl, (Below.refl _ _).alloc (Nat.le_refl _) _⟩
  · have hr : rightB a b = false := by simp [rightB, h1]
    have Hr := Lib.hid hr; clear hr
    go_enter Tryz.func130, Tryz.ntmps130
    go_wp2
    go_ret
    exact ⟨by rw [Hr.out]; rfl, (Below.refl _ _).alloc (Nat.le_refl _) _⟩

/-- cmp.Compare on ints. -/
def cmpI (a b : Int) : Int := if a < b then -1 else if b < a then 1 else 0

set_option maxHeartbeats 400000 in
theorem cmpint_any (a b : Int) (w : World) :
    Calls Tryz.prog 134 #[i64 a, i64 b] w fun e w' => e = .returned (i64 (cmpI a b)) ∧ w = w' := by
  by_cases h1 : a < b
  · have hr : cmpI a b = -1 := by simp [cmpI, h1]
    have Hr := Lib.hid hr; clear hr
    go_enter Tryz.func134, Tryz.ntmps134
    go_wp2
    go_ret
    exact ⟨by rw [Hr.out]; rfl, rfl⟩
  · by_cases h2 : b < a
    · have hr : cmpI a b = 1 := by simp [cmpI, h1, h2]
      have Hr := Lib.hid hr; clear hr
      go_enter Tryz.func134, Tryz.ntmps134
      go_wp2
      go_ret
      exact ⟨by rw [Hr.out]; rfl, rfl⟩
    · have hr : cmpI a b = 0 := by simp [cmpI, h1, h2]
      have Hr := Lib.hid hr; clear hr
      go_enter Tryz.func134, Tryz.ntmps134
      go_wp2
      go_ret
      exact ⟨by rw [Hr.out]; rfl, rfl⟩

/-- cmp.Or of two ints. -/
def orI (x y : Int) : Int := if x = 0 then y else x

set_option maxHeartbeats 400000 in
theorem or_any (x y : Int) (b : Nat) (w : World) (h0 : w.cell? ⟨b, 0, none⟩ = some (i64 x)) (h1 : w.cell? ⟨b, 1, none⟩ = some (i64 y)) :
    Calls Tryz.prog 132 #[.slice (some ⟨b, 0, none⟩) 2 2] w fun e w' => e = .returned (i64 (orI x y)) ∧ Below w.heap.size w w' := by
  go_enter Tryz.func132, Tryz.ntmps132
  go_wp2
  go_loop [8] (fun i => ∃ k : Nat, k ≤ 2 ∧ i = .int .i64 k ∧ Hid ((1 ≤ k → x = 0) ∧ (2 ≤ k → y = 0))) (fun i => 2 - (intOf i).toNat)
  case atStart => exact ⟨0, by omega, rfl, ⟨by omega, by omega⟩⟩
  case round =>
    obtain ⟨k, hk, rfl, hz⟩ := hrel
    rcases Nat.lt_or_ge k 2 with h2 | h2
    · rcases Nat.lt_or_ge k 1 with h3 | h3
      · obtain rfl : k = 0 := by omega
        by_cases hx : x = 0
        · have hx' : (x != 0) = false := by simp [hx]
          have Hx := Lib.hid hx; clear hx
          go_wp2
          go_round
          case rel => exact ⟨1, by omega, rfl, ⟨fun _ => Hx.out, by omega⟩⟩
          case measure => simp [intOf]
        · have hx' : (x != 0) = true := by simp [hx]
          have Hx := Lib.hid hx; clear hx
          go_wp2
          go_ret
          exact ⟨by unfold orI; rw [if_neg Hx.out]; rfl, Below.refl _ _⟩
      · obtain rfl : k = 1 := by omega
        have Hz := hz.out.1 (by omega)
        have HZ := Lib.hid Hz; clear Hz
        by_cases hx : y = 0
        · have hx' : (y != 0) = false := by simp [hx]
          have Hx := Lib.hid hx; clear hx
          go_wp2
          go_round
          case rel => exact ⟨2, by omega, rfl, ⟨fun _ => HZ.out, fun _ => Hx.out⟩⟩
          case measure => simp [intOf]
        · have hx' : (y != 0) = true := by simp [hx]
          have Hx := Lib.hid hx; clear hx
          go_wp2
          go_ret
          exact ⟨by unfold orI; rw [if_pos HZ.out]; rfl, Below.refl _ _⟩
    · obtain rfl : k = 2 := by omega
      go_wp2
      go_ret
      exact ⟨by unfold orI; rw [if_pos (hz.out.1 (by omega)), hz.out.2 (by omega)]; rfl, Below.refl _ _⟩

/-- The order of stamps. -/
def cmpS (a b c d : Int) : Int := orI (cmpI a c) (cmpI b d)

set_option maxHeartbeats 400000 in
theorem compare_any (a b c d : Int) (w : World) :
    Calls Tryz.prog 133 #[st a b, st c d] w fun e w' => e = .returned (i64 (cmpS a b c d)) ∧ Below w.heap.size w w' := by
  go_enter Tryz.func133, Tryz.ntmps133
  go_wp2
  go_region_held3 (fun w' => w'.cell? ⟨w.heap.size, 0, none⟩ = some (i64 a) ∧ w'.cell? ⟨w.heap.size, 1, none⟩ = some (i64 b) ∧ w'.cell? ⟨w.heap.size + 1, 0, none⟩ = some (i64 c) ∧ w'.cell? ⟨w.heap.size + 1, 1, none⟩ = some (i64 d)) (first | go_keep | (refine ⟨cell_later hb ?_, cell_later hb ?_, cell_later hb ?_, cell_later hb ?_⟩ <;> go_simp))
    (first | (go_at_call 134; refine (cmpint_any _ _ _).mono ?_; rintro e w' ⟨rfl, rfl⟩) | (go_at_call 132; refine (or_any (cmpI a c) (cmpI b d) _ _ ?h0 ?h1).mono ?hm; (case h0 => go_simp); (case h1 => go_simp); rintro e w' ⟨rfl, hb⟩))
  all_goals
    go_wp2
    go_ret
    exact ⟨rfl, ((((Below.refl _ _).alloc (Nat.le_refl _) _).alloc (by simp) _).alloc (by simp; omega) _).drew.trans (hb.mono (by simp; omega))⟩

def minZ (a c : Int) : Int := min a c
def maxZ (a c : Int) : Int := max a c

end

section
open Go.RowKit

def apartB (a b c d : Int) : Bool := decide (b < c) || decide (d < a)

theorem cmpS_eq (a b c d : Int) : cmpS a b c d = if a < c ∨ a = c ∧ b < d then -1 else if a = c ∧ b = d then 0 else 1 := by
  unfold cmpS orI cmpI
  repeat' split
  all_goals omega

theorem cmpS_lt {a b c d : Int} (h : a < c ∨ a = c ∧ b < d) : cmpS a b c d = -1 := by rw [cmpS_eq]; exact if_pos h
theorem cmpS_gt {a b c d : Int} (h : c < a ∨ a = c ∧ d < b) : cmpS a b c d = 1 := by
  rw [cmpS_eq]
  repeat' split
  all_goals omega
theorem cmpS_same (a b : Int) : cmpS a b a b = 0 := by
  rw [cmpS_eq]
  repeat' split
  all_goals omega

def leastF (L H : Nat → Int) : Nat → Int
  | 0 => -1
  | n + 1 => if leastF L H n < 0 ∨ cmpS (L n) (H n) (L (leastF L H n).toNat) (H (leastF L H n).toNat) < 0 then n else leastF L H n

theorem leastF_step (L H : Nat → Int) (k : Nat) : leastF L H (k + 1) = if leastF L H k < 0 ∨ cmpS (L k) (H k) (L (leastF L H k).toNat) (H (leastF L H k).toNat) < 0 then (k : Int) else leastF L H k := rfl

theorem leastF_range (L H : Nat → Int) : ∀ n, -1 ≤ leastF L H n ∧ leastF L H n < n ∧ (0 < n → 0 ≤ leastF L H n)
  | 0 => by simp [leastF]
  | n + 1 => by
    have h := leastF_range L H n
    unfold leastF
    split
    · omega
    · rename_i h2
      have : ¬ leastF L H n < 0 := fun h3 => h2 (.inl h3)
      omega

end

section
open Go.RowKit

theorem or_add (a b p : Int) (k : Nat) (hp : p = ((2 ^ k : Nat) : Int)) (h0 : 0 ≤ a) (h1 : a < p) (hb : 0 ≤ b) (hlt : b * p < 18446744073709551616) (hp2 : p < 18446744073709551616) : bits .or .u64 a (b * p) = a + b * p := by
  obtain ⟨n, rfl⟩ := Int.eq_ofNat_of_zero_le h0
  obtain ⟨m, rfl⟩ := Int.eq_ofNat_of_zero_le hb
  subst hp
  rw [← Int.natCast_mul] at hlt ⊢
  rw [u64_or_nat n (m * 2 ^ k) (by omega) (by omega)]
  have h2 : n < 2 ^ k := by omega
  have h3 := Nat.two_pow_add_eq_or_of_lt h2 m
  rw [Nat.mul_comm m, Nat.or_comm, ← h3]
  omega

theorem and_mod (a m p : Int) (k : Nat) (hp : p = ((2 ^ k : Nat) : Int)) (hm : m = p - 1) (h0 : 0 ≤ a) (h1 : a < 18446744073709551616) (hp2 : p < 18446744073709551616) : bits .and .u64 a m = a % p := by
  obtain ⟨n, rfl⟩ := Int.eq_ofNat_of_zero_le h0
  subst hm hp
  have hpos : 0 < 2 ^ k := Nat.two_pow_pos k
  rw [show ((2 ^ k : Nat) : Int) - 1 = ((2 ^ k - 1 : Nat) : Int) by omega, u64_and_nat n (2 ^ k - 1) (by omega) (by omega), Nat.and_two_pow_sub_one_eq_mod]
  rfl

theorem quiet_below {P : Program} {f : FuncId} {args : Array Value} {w : World} {v : Value} (h : Calls P f args w fun r w' => r = .returned v ∧ w = w') : Calls P f args w fun r w' => r = .returned v ∧ Below w.heap.size w w' :=
  h.mono fun _ _ ⟨he, hw⟩ => ⟨he, by subst hw; exact Below.refl _ _⟩

abbrev wd (s e g lo hi : Int) : Value := .agg #[.int .i64 s, .int .i64 e, .int .i64 g, .int .i64 lo, .int .i64 hi]

def rightW (s e g lo hi : Int) : Bool := decide (0 ≤ s ∧ s ≤ 2 ∧ 0 ≤ e ∧ e ≤ 1 ∧ 0 ≤ g ∧ g ≤ 8191 ∧ 0 ≤ lo ∧ lo ≤ 16777215 ∧ 0 ≤ hi ∧ hi ≤ 16777215)

set_option maxHeartbeats 1000000 in
theorem wright_any (s e g lo hi : Int) (w : World) :
    Calls Tryz.prog 106 #[wd s e g lo hi] w fun r w' => r = .returned (.bool (rightW s e g lo hi)) ∧ Below w.heap.size w w' := by
  go_enter Tryz.func106, Tryz.ntmps106
  go_wp2
  all_goals
    go_ret
    refine ⟨?_, below_new (Below.refl _ _) _⟩
    first
      | (rw [show rightW s e g lo hi = false from decide_eq_false (by omega)]; rfl)
      | (rw [show rightW s e g lo hi = decide (hi ≤ 16777215) from decide_eq_decide.2 (by omega)]; rfl)

set_option maxHeartbeats 1000000 in
theorem pack_right (s e g lo hi : Int) (w : World) (h : 0 ≤ s ∧ s ≤ 2 ∧ 0 ≤ e ∧ e ≤ 1 ∧ 0 ≤ g ∧ g ≤ 8191 ∧ 0 ≤ lo ∧ lo ≤ 16777215 ∧ 0 ≤ hi ∧ hi ≤ 16777215) :
    Calls Tryz.prog 93 #[wd s e g lo hi] w fun r w' => r = .returned (u64 (s + 4 * e + 8 * g + 65536 * lo + 1099511627776 * hi)) ∧ Below w.heap.size w w' := by
  have hr : rightW s e g lo hi = true := decide_eq_true h
  obtain ⟨h1, h2, h3, h4, h5, h6, h7, h8, h9, h10⟩ := h
  have q0 : (w.alloc (.cells #[.int .i64 s, .int .i64 e, .int .i64 g, .int .i64 lo, .int .i64 hi] 162)).cell? ⟨w.heap.size, 0, none⟩ = some (i64 s) := by go_simp
  have q1 : (w.alloc (.cells #[.int .i64 s, .int .i64 e, .int .i64 g, .int .i64 lo, .int .i64 hi] 162)).cell? ⟨w.heap.size, 1, none⟩ = some (i64 e) := by go_simp
  have q2 : (w.alloc (.cells #[.int .i64 s, .int .i64 e, .int .i64 g, .int .i64 lo, .int .i64 hi] 162)).cell? ⟨w.heap.size, 2, none⟩ = some (i64 g) := by go_simp
  have q3 : (w.alloc (.cells #[.int .i64 s, .int .i64 e, .int .i64 g, .int .i64 lo, .int .i64 hi] 162)).cell? ⟨w.heap.size, 3, none⟩ = some (i64 lo) := by go_simp
  have q4 : (w.alloc (.cells #[.int .i64 s, .int .i64 e, .int .i64 g, .int .i64 lo, .int .i64 hi] 162)).cell? ⟨w.heap.size, 4, none⟩ = some (i64 hi) := by go_simp
  go_enter Tryz.func93, Tryz.ntmps93
  go_wp2_with fail
  refine (wright_any _ _ _ _ _ _).mono ?_
  rintro r w1 ⟨rfl, hb1⟩
  replace q0 := cell_later hb1 q0
  replace q1 := cell_later hb1 q1
  replace q2 := cell_later hb1 q2
  replace q3 := cell_later hb1 q3
  replace q4 := cell_later hb1 q4
  go_wp2_with fail
  go_ret
  have hp : bits BinOp.or IntKind.u64 (bits BinOp.or IntKind.u64 (bits BinOp.or IntKind.u64 (bits BinOp.or IntKind.u64 s (e * 4)) (g * 8)) (lo * 65536)) (hi * 1099511627776) = s + 4 * e + 8 * g + 65536 * lo + 1099511627776 * hi := by
    rw [or_add s e 4 2 rfl (by omega) (by omega) (by omega) (by omega) (by omega), or_add _ g 8 3 rfl (by omega) (by omega) (by omega) (by omega) (by omega), or_add _ lo 65536 16 rfl (by omega) (by omega) (by omega) (by omega) (by omega), or_add _ hi 1099511627776 40 rfl (by omega) (by omega) (by omega) (by omega) (by omega)]
    omega
  rw [← hp]
  exact ⟨rfl, below_step (below_new (Below.refl _ _) _) hb1⟩

set_option maxHeartbeats 1000000 in
theorem pack_wrong (s e g lo hi : Int) (w : World) (hr : rightW s e g lo hi = false) :
    Calls Tryz.prog 93 #[wd s e g lo hi] w fun r w' => r = .returned (u64 0) ∧ Below w.heap.size w w' := by
  go_enter Tryz.func93, Tryz.ntmps93
  go_wp2_with fail
  refine (wright_any _ _ _ _ _ _).mono ?_
  rintro r w1 ⟨rfl, hb1⟩
  go_wp2_with fail
  go_ret
  exact ⟨rfl, below_step (below_new (Below.refl _ _) _) hb1⟩

set_option maxHeartbeats 1000000 in
theorem unpack_any (x : Int) (w : World) (h0 : 0 ≤ x) (h1 : x ≤ 18446744073709551615) :
    Calls Tryz.prog 112 #[u64 x] w fun r w' => r = .returned (wd (x % 4) (x / 4 % 2) (x / 8 % 8192) (x / 65536 % 16777216) (x / 1099511627776)) ∧ Below w.heap.size w w' := by
  have c1 : wrap64 (bits BinOp.and IntKind.u64 x 3) = x % 4 := by rw [and_mod x 3 4 2 rfl rfl (by omega) (by omega) (by omega)]; unfold wrap64; omega
  have c2 : wrap64 (bits BinOp.and IntKind.u64 (x / 4) 1) = x / 4 % 2 := by rw [and_mod _ 1 2 1 rfl rfl (by omega) (by omega) (by omega)]; unfold wrap64; omega
  have c3 : wrap64 (bits BinOp.and IntKind.u64 (x / 8) 8191) = x / 8 % 8192 := by rw [and_mod _ 8191 8192 13 rfl rfl (by omega) (by omega) (by omega)]; unfold wrap64; omega
  have c4 : wrap64 (bits BinOp.and IntKind.u64 (x / 65536) 16777215) = x / 65536 % 16777216 := by rw [and_mod _ 16777215 16777216 24 rfl rfl (by omega) (by omega) (by omega)]; unfold wrap64; omega
  have c5 : wrap64 (bits BinOp.and IntKind.u64 (x / 1099511627776) 16777215) = x / 1099511627776 := by rw [and_mod _ 16777215 16777216 24 rfl rfl (by omega) (by omega) (by omega)]; unfold wrap64; omega
  rw [← c1, ← c2, ← c3, ← c4]
  rw [← c5]
  clear c1 c2 c3 c4 c5
  go_enter Tryz.func112, Tryz.ntmps112
  go_wp2_with fail
  refine bodyPost_ret (v := wd (wrap64 (bits BinOp.and IntKind.u64 x 3)) (wrap64 (bits BinOp.and IntKind.u64 (x / 4) 1)) (wrap64 (bits BinOp.and IntKind.u64 (x / 8) 8191)) (wrap64 (bits BinOp.and IntKind.u64 (x / 65536) 16777215)) (wrap64 (bits BinOp.and IntKind.u64 (x / 1099511627776) 16777215))) (by simp [results, Tryz.results112, go_sem]) rfl ⟨rfl, below_new (Below.refl _ _) _⟩


def otherE (e : Int) : Int := if e = 0 then 1 else 0

end

section
open Go.RowKit

set_option maxHeartbeats 1000000 in
theorem taken_any (s e g lo hi : Int) (w : World) :
    Calls Tryz.prog 128 #[wd s e g lo hi] w fun r w' => r = .returned (wd 2 e g lo hi) ∧ Below w.heap.size w w' := by
  go_enter Tryz.func128, Tryz.ntmps128
  go_wp2_with fail
  refine bodyPost_ret (v := wd 2 e g lo hi) (by simp [results, Tryz.results128, go_sem]) rfl ⟨rfl, below_new (below_new (Below.refl _ _) _) _⟩

set_option maxHeartbeats 1000000 in
theorem next_any (s e g lo hi e' lo' hi' : Int) (w : World) :
    Calls Tryz.prog 90 #[wd s e g lo hi, i64 e', st lo' hi'] w fun r w' => r = .returned (wd 1 e' (wrap64 (g + 1)) lo' hi') ∧ Below w.heap.size w w' := by
  go_enter Tryz.func90, Tryz.ntmps90
  go_wp2_with fail
  refine bodyPost_ret (v := wd 1 e' (wrap64 (g + 1)) lo' hi') (by simp [results, Tryz.results90, go_sem]) rfl ⟨rfl, below_new (below_new (below_new (Below.refl _ _) _) _) _⟩
end

section
open Go.RowKit
set_option linter.unusedVariables false


structure Ev where
  who : Int
  op : Int
  cell : Int
  old : Int
  new : Int
  ok : Bool

def Ev.cells (e : Ev) : List Value := [i64 e.who, i64 e.op, i64 e.cell, u64 e.old, u64 e.new, .bool e.ok]

/-- Events as cells. -/
def flatE : List Ev → List Value
  | [] => []
  | e :: l => e.cells ++ flatE l

theorem flatE_append : ∀ a b : List Ev, flatE (a ++ b) = flatE a ++ flatE b
  | [], _ => rfl
  | e :: a, b => by simp [flatE, flatE_append a b]
theorem flatE_length : ∀ l : List Ev, (flatE l).length = l.length * 6
  | [] => rfl
  | e :: l => by simp only [flatE, List.length_append, List.length_cons, flatE_length l, Ev.cells, List.length_nil]; omega
theorem flatE_one : ∀ (l : List Ev) (u : Value), u ∈ flatE l → u.oneCell' = true
  | [], _, h => by cases h
  | e :: l, u, h => by
    simp only [flatE, List.mem_append, Ev.cells, List.mem_cons, List.not_mem_nil, or_false] at h
    rcases h with (rfl | rfl | rfl | rfl | rfl | rfl) | h
    · rfl
    · rfl
    · rfl
    · rfl
    · rfl
    · rfl
    · exact flatE_one l u h

theorem elem_ev : ElemAt Tryz.prog 90 94 (.agg #[.int .i64 0, .int .i64 0, .int .i64 0, .int .u64 0, .int .u64 0, .bool false]) 6 48 :=
  ElemAt.mk' Tryz.underlying90 (by kernel_rfl) rfl (by decide)

/-- Cells that are C, of which L was noted: at block p; the cells' own block is c, v the list of what was noted. -/
structure IsMem (base : Nat) (w : World) (p c : Nat) (v : Value) (C : List Int) (L : List Ev) : Prop where
  c0 : w.cell? ⟨p, 0, none⟩ = some (.slice (some ⟨c, 0, none⟩) C.length C.length)
  c1 : w.cell? ⟨p, 1, none⟩ = some v
  fz : ∀ o, w.frozen? ⟨p, o, none⟩ = false
  row : w.ownsRow base 30 1 (.slice (some ⟨c, 0, none⟩) C.length C.length) C.length (C.map u64)
  log : w.ownsRow base 94 6 v L.length (flatE L)
  pc : p ≠ c
  vp : v.ownBlock ≠ some p
  vc : v.ownBlock ≠ some c
  pb : base ≤ p
  ps : p < w.heap.size
  num : ∀ x ∈ C, 0 ≤ x ∧ x ≤ 18446744073709551615

/-- The blocks of cells. -/
def Foot (p c : Nat) (v : Value) (k : Nat) : Prop := k = p ∨ k = c ∨ v.ownBlock = some k

theorem IsMem.cb {base : Nat} {w : World} {p c : Nat} {v : Value} {C : List Int} {L : List Ev} (h : IsMem base w p c v C L) : base ≤ c ∧ c < w.heap.size := h.row.lt c rfl
theorem IsMem.foot {base : Nat} {w : World} {p c : Nat} {v : Value} {C : List Int} {L : List Ev} (h : IsMem base w p c v C L) : ∀ k, Foot p c v k → base ≤ k ∧ k < w.heap.size := by
  rintro k (rfl | rfl | hk)
  · exact ⟨h.pb, h.ps⟩
  · exact h.cb
  · exact h.log.lt k hk

theorem IsMem.keep {base : Nat} {w w' : World} {p c : Nat} {v : Value} {C : List Int} {L : List Ev} {T : Nat → Prop} (h : IsMem base w p c v C L) (k : Keep T w w') (hT : ∀ i, Foot p c v i → ¬ T i) : IsMem base w' p c v C L :=
  ⟨k.cell h.c0 (hT _ (.inl rfl)), k.cell h.c1 (hT _ (.inl rfl)), fun o => (k.frozen (a := ⟨p, o, none⟩) h.ps (hT _ (.inl rfl))).trans (h.fz o),
    k.row h.row (fun i hi => hT i (.inr (.inl (by cases hi; rfl)))), k.row h.log (fun i hi => hT i (.inr (.inr hi))), h.pc, h.vp, h.vc, h.pb, Nat.lt_of_lt_of_le h.ps k.size, h.num⟩
theorem IsMem.later {base : Nat} {w w' : World} {p c : Nat} {v : Value} {C : List Int} {L : List Ev} (h : IsMem base w p c v C L) (k : Below w.heap.size w w') : IsMem base w' p c v C L :=
  h.keep (T := fun _ => False) (Keep.of_below k) (fun _ _ h => h)

theorem IsMem.at' {base : Nat} {w : World} {p c : Nat} {v : Value} {C : List Int} {L : List Ev} (h : IsMem base w p c v C L) {i : Nat} {x : Int} (hx : C[i]? = some x) : w.cell? ⟨c, i, none⟩ = some (u64 x) := by
  have hi := (List.getElem?_eq_some_iff.1 hx).1
  rw [h.row.cellAt i (by omega), List.getElem?_map, hx]
  rfl
theorem IsMem.numAt {base : Nat} {w : World} {p c : Nat} {v : Value} {C : List Int} {L : List Ev} (h : IsMem base w p c v C L) {i : Nat} {x : Int} (hx : C[i]? = some x) : 0 ≤ x ∧ x ≤ 18446744073709551615 :=
  h.num x (List.mem_of_getElem? hx)

/-- What is known behind a call that touches cells. -/
structure Touched (base : Nat) (w w' : World) (p c : Nat) (v v' : Value) (C' : List Int) (L' : List Ev) : Prop where
  mem : IsMem base w' p c v' C' L'
  keep : Keep (Foot p c v) w w'
  moved : Moved w v v'

def MemPost (base : Nat) (w : World) (p c : Nat) (v : Value) (C' : List Int) (L' : List Ev) (e0 : Ending) (e : Ending) (w' : World) : Prop :=
  e = e0 ∧ ∃ v', Touched base w w' p c v v' C' L'



theorem src_one (w : World) (e : Ev) : Src (w.alloc (.cells #[i64 e.who, i64 e.op, i64 e.cell, u64 e.old, u64 e.new, .bool e.ok] 94)) 6 (some ⟨w.heap.size, 0, none⟩) 1 e.cells :=
  ⟨(fun h => by cases h), rfl, fun ad had j u hj => by
    cases had
    rw [addr_add', Nat.zero_add]
    have : (w.alloc (.cells #[i64 e.who, i64 e.op, i64 e.cell, u64 e.old, u64 e.new, .bool e.ok] 94)).cell? ⟨w.heap.size, j, none⟩ = #[i64 e.who, i64 e.op, i64 e.cell, u64 e.old, u64 e.new, .bool e.ok][j]? := World.cell?_alloc_new w _ _ j
    rw [this, ← Array.getElem?_toList]
    exact hj, fun u hu => flatE_one [e] u (by simpa [flatE] using hu)⟩

theorem src_one' (w W : World) (e : Ev) (h : W.heap = (w.alloc (.cells #[i64 e.who, i64 e.op, i64 e.cell, u64 e.old, u64 e.new, .bool e.ok] 94)).heap) : Src W 6 (some ⟨w.heap.size, 0, none⟩) 1 e.cells :=
  have k := src_one w e
  ⟨k.nil, k.len, fun ad had j u hj => (World.cell?_of_block (w := w.alloc _) (by rw [h])).trans (k.at' ad had j u hj), k.one⟩

theorem setCell_row {w : World} {base : Nat} {e : TypeId} {sz : Nat} {v : Value} {n : Nat} {xs : List Value} (h : w.ownsRow base e sz v n xs) (p : Addr) (hp : v.ownBlock ≠ some p.block) (u : Value) : (w.setCell p u).ownsRow base e sz v n xs := by
  refine ⟨h.1, ?_⟩
  rcases h.2 with h1 | ⟨g, cap, cur, rfl, hg, hh, h3⟩
  · exact .inl h1
  · exact .inr ⟨g, cap, cur, rfl, hg, by rw [Below.heap_setCell _ _ _ _ (fun e => hp (by simp [Value.ownBlock, e]))]; exact hh, h3⟩

theorem turn_facts {base : Nat} {w W w1 : World} {p c : Nat} {v v' : Value} {C : List Int} {L : List Ev} {n i : Nat} {x : Int} {xs : List Value} (hM : IsMem base w p c v C L) (hx : C[i]? = some x) (hW : Below w.heap.size w W)
    (hG : Grew W w1 base 94 6 v v' n xs) : w1.cell? ⟨p, 0, none⟩ = some (.slice (some ⟨c, 0, none⟩) C.length C.length) ∧ w1.cell? ⟨p, 1, none⟩ = some v ∧ w1.cell? ⟨c, i, none⟩ = some (u64 x) ∧
      w1.frozen? ⟨p, 0, none⟩ = false ∧ w1.frozen? ⟨p, 1, none⟩ = false ∧ w1.frozen? ⟨c, i, none⟩ = false := by
  have hM' := hM.later hW
  have kr := hM'.row.kept hG.grown (.inr (fun h => hM.vc h.symm))
  have hb := hG.grown.block p hM'.ps (fun h => hM.vp h.symm)
  exact ⟨hG.grown.cell hM'.c0 (fun h => hM.vp h.symm), hG.grown.cell hM'.c1 (fun h => hM.vp h.symm), hG.grown.cell (hM'.at' hx) (fun h => hM.vc h.symm), (World.frozen?_of_block (a := ⟨p, 0, none⟩) hb).trans (hM'.fz 0), (World.frozen?_of_block (a := ⟨p, 1, none⟩) hb).trans (hM'.fz 1), kr.frozenAt i⟩

theorem turn_post {base : Nat} {w W w1 : World} {p c : Nat} {v v' : Value} {C : List Int} {L : List Ev} {i : Nat} {e : Ev} {next : Int} (hM : IsMem base w p c v C L) (hi : i < C.length) (hW : Below w.heap.size w W)
    (hG : Grew W w1 base 94 6 v v' (L.length + 1) (flatE L ++ e.cells)) (h0 : 0 ≤ next) (h1 : next ≤ 18446744073709551615) :
    Touched base w ((w1.setCell ⟨p, 1, none⟩ v').setCell ⟨c, i, none⟩ (u64 next)) p c v v' (C.set i next) (L ++ [e]) := by
  have hM' := hM.later hW
  have hp := hM.ps
  have hcb := hM.cb
  have hpW := hW.size
  have hown : v'.ownBlock ≠ some p ∧ v'.ownBlock ≠ some c := by
    constructor
    all_goals
      intro hk
      rcases hG.moved _ hk with h | h
      · first | exact hM.vp h | exact hM.vc h
      · omega
  have k0 : w1.cell? ⟨p, 0, none⟩ = _ := hG.grown.cell hM'.c0 (fun h => hM.vp h.symm)
  have k1 : w1.cell? ⟨p, 1, none⟩ = some v := hG.grown.cell hM'.c1 (fun h => hM.vp h.symm)
  have kr := hM'.row.kept hG.grown (.inr (fun h => hM.vc h.symm))
  have kp := hM.pc
  have hK1 : Keep (Foot p c v) w w1 := (Keep.of_below hW).trans (Keep.of_grown hG.grown (fun k hk => .inr (.inr hk)))
  refine ⟨⟨?_, ?_, ?_, ?_, ?_, kp, hown.1, hown.2, hM.pb, ?_, ?_⟩, ?_, fun k hk => (hG.moved k hk).imp id (fun h => by omega)⟩
  · rw [List.length_set, World.cell?_setCell_other _ _ _ _ (by simp), World.cell?_setCell_other _ _ _ _ (by simp)]
    exact k0
  · rw [World.cell?_setCell_other _ _ _ _ (by simp)]
    exact World.cell?_setCell_same _ _ _ k1
  · intro o
    rw [World.frozen?_setCell, World.frozen?_setCell]
    exact (World.frozen?_of_block (a := ⟨p, o, none⟩) (hG.grown.block p hM'.ps (fun h => hM.vp h.symm))).trans (hM'.fz o)
  · have h2 := (setCell_row kr ⟨p, 1, none⟩ (by simp [Value.ownBlock]; exact fun h => kp h.symm) v').stored i (u64 next)
    rw [List.length_set, List.map_set]
    exact h2.1
  · rw [List.length_append, flatE_append]
    refine setCell_row (setCell_row ?_ _ hown.1 _) _ hown.2 _
    simpa [flatE] using hG.own
  · have := hG.grown.size
    simp [World.setCell]
    omega
  · intro y hy
    rcases List.mem_or_eq_of_mem_set hy with h | rfl
    · exact hM.num y h
    · exact ⟨h0, h1⟩
  · exact (hK1.setCell _ (.inl rfl) _).setCell _ (.inr (.inl rfl)) _

theorem foot_new {w w' : World} {base : Nat} {p c : Nat} {v v' : Value} {C L} (h : Touched base w w' p c v v' C L) {k : Nat} (hf : Foot p c v' k) : Foot p c v k ∨ w.heap.size ≤ k := by
  rcases hf with h1 | h1 | h1
  · exact .inl (.inl h1)
  · exact .inl (.inr (.inl h1))
  · exact (h.moved k h1).imp (fun h => .inr (.inr h)) id
theorem foot_mv {wr : World} {p c : Nat} {v v' : Value} (h : Moved wr v v') {k : Nat} (hk : k < wr.heap.size) (hn : ¬ Foot p c v k) : ¬ Foot p c v' k := by
  rintro (h1 | h1 | h1)
  · exact hn (.inl h1)
  · exact hn (.inr (.inl h1))
  · rcases h k h1 with h2 | h2
    · exact hn (.inr (.inr h2))
    · omega
end

section
open Go.RowKit
set_option linter.unusedVariables false

/-- What a call does that touches cells, and blocks B of its own. -/
structure Does (B : Nat → Prop) (base : Nat) (w w' : World) (p c : Nat) (v v' : Value) (C' : List Int) (L' : List Ev) : Prop where
  mem : IsMem base w' p c v' C' L'
  apart : ∀ i, B i → ¬ Foot p c v' i
  keep : Keep (fun i => B i ∨ Foot p c v i) w w'
  moved : Moved w v v'
  size : base ≤ w'.heap.size

section
variable {B : Nat → Prop} {base : Nat} {w w1 w2 : World} {p c : Nat} {v v1 v2 : Value} {C C1 C2 : List Int} {L L1 L2 : List Ev}

theorem Does.refl (hM : IsMem base w p c v C L) (ha : ∀ i, B i → ¬ Foot p c v i) (hb : base ≤ w.heap.size) : Does B base w w p c v v C L :=
  ⟨hM, ha, Keep.refl _ _, moved_refl _ _, hb⟩
theorem Does.later (h : Does B base w w1 p c v v1 C L) (e : Below w1.heap.size w1 w2) : Does B base w w2 p c v v1 C L :=
  ⟨h.mem.later e, h.apart, h.keep.trans (Keep.of_below e), h.moved, Nat.le_trans h.size e.size⟩
theorem Does.own (h : Does B base w w1 p c v v1 C L) (e : Keep B w1 w2) : Does B base w w2 p c v v1 C L :=
  ⟨h.mem.keep e (fun i hi hb => h.apart i hb hi), h.apart, h.keep.trans (e.mono fun _ h => .inl h), h.moved, Nat.le_trans h.size e.size⟩
theorem Does.cells (h : Does B base w w1 p c v v1 C L) (hlt : ∀ i, B i → i < w1.heap.size) (t : Touched base w1 w2 p c v1 v2 C2 L2) : Does B base w w2 p c v v2 C2 L2 :=
  ⟨t.mem, fun i hi hf => (foot_new t hf).elim (h.apart i hi) (fun hs => by have := hlt i hi; omega),
    h.keep.then' t.keep (fun i hi => by
      rcases hi with h1 | h1 | h1
      · exact .inl (.inr (.inl h1))
      · exact .inl (.inr (.inr (.inl h1)))
      · exact (h.moved i h1).imp (fun h => .inr (.inr (.inr h))) id), h.moved.trans t.moved h.keep.size, Nat.le_trans h.size t.keep.size⟩
theorem Does.drew (h : Does B base w w1 p c v v1 C L) : Does B base w w1.drew p c v v1 C L := h.later (Below.refl _ _).drew
end

def tMem (base p c : Nat) (v : Value) (C : List Int) (L : List Ev) : Thing := ⟨fun w => IsMem base w p c v C L, Foot p c v⟩

theorem tMem_ok (base p c : Nat) (v : Value) (C : List Int) (L : List Ev) : (tMem base p c v C L).Ok base :=
  ⟨fun _ _ _ h k hn => IsMem.keep h k hn, fun _ i h hi => IsMem.foot h i hi⟩

section
variable {W w w' : World} {l : List Thing} {p c : Nat} {v v' : Value} {C C' : List Int} {L L' : List Ev}
/-- Cells are touched. -/
theorem Hold.mem (h : Hold W w l) (i : Nat) (hi : l[i]? = some (tMem W.heap.size p c v C L)) (t : Touched W.heap.size w w' p c v v' C' L') : Hold W w' (l.set i (tMem W.heap.size p c v' C' L')) :=
  h.turn i hi t.keep (tMem_ok _ _ _ _ _ _) t.mem (fun q hq => foot_new t hq)
/-- Cells are touched, and something else. -/
theorem Hold.does (h : Hold W w l) (i j : Nat) {A A' : Thing} (hne : i ≠ j) (hi : l[i]? = some (tMem W.heap.size p c v C L)) (hj : l[j]? = some A) (d : Does A.F W.heap.size w w' p c v v' C' L') (ok : A'.Ok W.heap.size) (hP : A'.P w') (hF : ∀ q, A'.F q → A.F q) :
    Hold W w' ((l.set i (tMem W.heap.size p c v' C' L')).set j A') :=
  h.turn2 i j hne hi hj d.keep (tMem_ok _ _ _ _ _ _) ok d.mem hP (fun q hq => by
    rcases hq with h1 | h1 | h1
    · exact .inl (.inl h1)
    · exact .inl (.inr (.inl h1))
    · exact (d.moved q h1).imp (fun h => .inr (.inr h)) id) hF
/-- What lies in other blocks than cells. -/
theorem Hold.free (h : Hold W w l) (i j : Nat) {A : Thing} (hne : i ≠ j) (hi : l[i]? = some (tMem W.heap.size p c v C L)) (hj : l[j]? = some A) : ∀ q, A.F q → ¬ Foot p c v q :=
  fun q hq => h.apart j i A _ hj hi (fun e => hne e.symm) q hq
end
end

section
open Go.RowKit
set_option linter.unusedVariables false

theorem lay44 {t s : Int} (t1 : 1 ≤ t) (t2 : t ≤ 4) (s1 : 1 ≤ s) (s2 : s ≤ 4) : ∃ N : Nat, t * s = (N : Int) ∧ Lay t s N ∧ 1 ≤ N ∧ N ≤ 16 := by
  have h := Lay.mk' t1 (by omega : t ≤ 64) s1 (by omega : s ≤ 64)
  have h2 := Int.mul_le_mul t2 s2 (by omega) (by omega)
  have hn := h.n1
  refine ⟨(t * s).toNat, by omega, ?_, by omega, by omega⟩
  rw [Int.toNat_of_nonneg (by omega)]
  exact h

theorem Hold.sel {W w : World} {l l' : List Thing} (h : Hold W w l) (f : Nat → Nat) (hf : ∀ (i : Nat) (A : Thing), l'[i]? = some A → l[f i]? = some A) (hi : ∀ i j, i < l'.length → j < l'.length → f i = f j → i = j) : Hold W w l' :=
  ⟨h.size, h.below, fun i A hA => h.ok _ A (hf i A hA), fun i A hA => h.has _ A (hf i A hA), fun i j A B hA hB hne => h.apart _ _ A B (hf i A hA) (hf j B hB) (fun e => hne (hi i j (List.getElem?_eq_some_iff.1 hA).1 (List.getElem?_eq_some_iff.1 hB).1 e))⟩

theorem Hold.swap {W w : World} {a b c : Thing} (h : Hold W w [a, b, c]) : Hold W w [a, c, b] :=
  h.sel (fun i => if i = 1 then 2 else if i = 2 then 1 else i) (fun i A hA => by
    rcases i with _ | _ | _ | i
    · exact hA
    · exact hA
    · exact hA
    · simp at hA) (fun i j hi hj e => by
    simp only [List.length_cons, List.length_nil] at hi hj
    rcases (by omega : i = 0 ∨ i = 1 ∨ i = 2) with rfl | rfl | rfl <;> rcases (by omega : j = 0 ∨ j = 1 ∨ j = 2) with rfl | rfl | rfl <;> simp at e ⊢)

theorem Hold.cells {W w w' : World} {p c n : Nat} (hB : Below W.heap.size W w) (hM : IsMem W.heap.size w' p c (.slice none 0 0) (List.replicate n 0) []) (e : Below w.heap.size w w') (hp : w.heap.size ≤ p) (hc : w.heap.size ≤ c) :
    Hold W w' [tMem W.heap.size p c (.slice none 0 0) (List.replicate n 0) []] :=
  (Hold.nil hB).more e (tMem_ok _ _ _ _ _ _) hM (fun q hq => by
    rcases hq with rfl | rfl | hq
    · exact hp
    · exact hc
    · cases hq)

theorem and_ffff (a : Int) : bits .and .i64 a 65535 = a % 65536 := by rw [show (65535 : Int) = ((65535 : Nat) : Int) from rfl, and_i64 a 65535 16 rfl (by decide)]; rfl

theorem fld0 (s e g lo hi : Int) (w : World) : (Instr.field 162 (wd s e g lo hi) 0).run Tryz.prog w = .ok (i64 s) w := by
  simp [Instr.field, go_sem, asAgg]
end

section
open Go.RowKit
set_option linter.unusedVariables false

/-- Nothing that was there is turned; the count of draws doesn't fall. -/
structure Gr (w w' : World) : Prop where
  below : Below w.heap.size w w'
  drawn : w.drawn ≤ w'.drawn

theorem Gr.refl (w : World) : Gr w w := ⟨Below.refl _ _, Nat.le_refl _⟩
theorem Gr.step {a b c : World} (h : Gr a b) (k : Gr b c) : Gr a c := ⟨below_step h.below k.below, Nat.le_trans h.drawn k.drawn⟩
theorem Gr.new {w W : World} (h : Gr w W) (o : Obj) : Gr w (W.alloc o) := ⟨below_new h.below o, h.drawn⟩
theorem Gr.drew {w W : World} (h : Gr w W) : Gr w W.drew := ⟨h.below.drew, Nat.le_trans h.drawn (by show W.drawn ≤ W.drawn + 1; omega)⟩
theorem Gr.set {w W : World} (h : Gr w W) {p : Addr} (hp : w.heap.size ≤ p.block) (u : Value) : Gr w (W.setCell p u) := ⟨below_set h.below hp u, h.drawn⟩
theorem Gr.cell {w W : World} (h : Gr w W) {a : Addr} {x : Value} (hx : w.cell? a = some x) : W.cell? a = some x := (below_rule h.below a (by rw [hx]; rfl)).trans hx

theorem cell_new {w : World} {a : Addr} {v : Value} (h : w.cell? a = some v) (o : Obj) : (w.alloc o).cell? a = some v := ((Gr.refl w).new o).cell h

/-- .. as an equation. -/
theorem Gr.grown {w w' : World} (h : Gr w w') : ∃ q os, w' = Go.Sort.grow (w.drewN q) os := by
  refine ⟨w'.drawn - w.drawn, w'.heap.extract w.heap.size w'.heap.size, ?_⟩
  obtain ⟨⟨h1, h2, h3, h4, h5⟩, h6⟩ := h
  cases w with
  | mk a b c d e =>
    cases w' with
    | mk a' b' c' d' e' =>
      simp only at h1 h2 h3 h4 h5 h6
      subst h1 h2 h3
      simp only [Go.Sort.grow, World.drewN, World.mk.injEq, true_and]
      refine ⟨?_, by omega, trivial⟩
      apply Array.ext_getElem?
      intro k
      rw [Array.getElem?_append]
      by_cases hk : k < a.size
      · rw [if_pos hk, h5 k hk]
      · rw [if_neg hk, Array.getElem?_extract]
        by_cases hk2 : k < a'.size
        · rw [if_pos (by omega)]
          congr 1
          omega
        · rw [if_neg (by omega), Array.getElem?_eq_none (by omega)]

set_option maxHeartbeats 400000 in
theorem or_same (x y : Int) (b : Nat) (w : World) (h0 : w.cell? ⟨b, 0, none⟩ = some (i64 x)) (h1 : w.cell? ⟨b, 1, none⟩ = some (i64 y)) :
    Calls Tryz.prog 132 #[.slice (some ⟨b, 0, none⟩) 2 2] w fun e w' => e = .returned (i64 (orI x y)) ∧ w = w' := by
  go_enter Tryz.func132, Tryz.ntmps132
  go_wp2
  go_loop [8] (fun i => ∃ k : Nat, k ≤ 2 ∧ i = .int .i64 k ∧ Hid ((1 ≤ k → x = 0) ∧ (2 ≤ k → y = 0))) (fun i => 2 - (intOf i).toNat)
  case atStart => exact ⟨0, by omega, rfl, ⟨by omega, by omega⟩⟩
  case round =>
    obtain ⟨k, hk, rfl, hz⟩ := hrel
    rcases Nat.lt_or_ge k 2 with h2 | h2
    · rcases Nat.lt_or_ge k 1 with h3 | h3
      · obtain rfl : k = 0 := by omega
        by_cases hx : x = 0
        · have hx' : (x != 0) = false := by simp [hx]
          have Hx := Lib.hid hx; clear hx
          go_wp2
          go_round
          case rel => exact ⟨1, by omega, rfl, ⟨fun _ => Hx.out, by omega⟩⟩
          case measure => simp [intOf]
        · have hx' : (x != 0) = true := by simp [hx]
          have Hx := Lib.hid hx; clear hx
          go_wp2
          go_ret
          exact ⟨by unfold orI; rw [if_neg Hx.out]; rfl, rfl⟩
      · obtain rfl : k = 1 := by omega
        have Hz := hz.out.1 (by omega)
        have HZ := Lib.hid Hz; clear Hz
        by_cases hx : y = 0
        · have hx' : (y != 0) = false := by simp [hx]
          have Hx := Lib.hid hx; clear hx
          go_wp2
          go_round
          case rel => exact ⟨2, by omega, rfl, ⟨fun _ => HZ.out, fun _ => Hx.out⟩⟩
          case measure => simp [intOf]
        · have hx' : (y != 0) = true := by simp [hx]
          have Hx := Lib.hid hx; clear hx
          go_wp2
          go_ret
          exact ⟨by unfold orI; rw [if_pos HZ.out]; rfl, rfl⟩
    · obtain rfl : k = 2 := by omega
      go_wp2
      go_ret
      exact ⟨by unfold orI; rw [if_pos (hz.out.1 (by omega)), hz.out.2 (by omega)]; rfl, rfl⟩

set_option maxHeartbeats 400000 in
theorem compare_gr (a b c d : Int) (w : World) :
    Calls Tryz.prog 133 #[st a b, st c d] w fun e w' => e = .returned (i64 (cmpS a b c d)) ∧ Gr w w' := by
  go_enter Tryz.func133, Tryz.ntmps133
  go_wp2
  go_region_held3 (fun w' => w'.cell? ⟨w.heap.size, 0, none⟩ = some (i64 a) ∧ w'.cell? ⟨w.heap.size, 1, none⟩ = some (i64 b) ∧ w'.cell? ⟨w.heap.size + 1, 0, none⟩ = some (i64 c) ∧ w'.cell? ⟨w.heap.size + 1, 1, none⟩ = some (i64 d)) (first | go_keep | (refine ⟨cell_later hb ?_, cell_later hb ?_, cell_later hb ?_, cell_later hb ?_⟩ <;> go_simp))
    (first | (go_at_call 134; refine (cmpint_any _ _ _).mono ?_; rintro e w' ⟨rfl, rfl⟩) | (go_at_call 132; refine (or_same (cmpI a c) (cmpI b d) _ _ ?h0 ?h1).mono ?hm; (case h0 => go_simp); (case h1 => go_simp); rintro e w' ⟨rfl, rfl⟩))
  all_goals
    go_wp2
    go_ret
    exact ⟨rfl, by first | exact (((Gr.refl _).new _).new _).drew.new _⟩

set_option maxHeartbeats 400000 in
theorem cmpend_any (a b : Int) (w : World) :
    Calls Tryz.prog 135 #[i64 a, i64 b] w fun e w' => e = .returned (i64 (cmpI a b)) ∧ w = w' := by
  by_cases h1 : a < b
  · have hr : cmpI a b = -1 := by simp [cmpI, h1]
    have Hr := Lib.hid hr; clear hr
    go_enter Tryz.func135, Tryz.ntmps135
    go_wp2
    go_ret
    exact ⟨by rw [Hr.out]; rfl, rfl⟩
  · by_cases h2 : b < a
    · have hr : cmpI a b = 1 := by simp [cmpI, h1, h2]
      have Hr := Lib.hid hr; clear hr
      go_enter Tryz.func135, Tryz.ntmps135
      go_wp2
      go_ret
      exact ⟨by rw [Hr.out]; rfl, rfl⟩
    · have hr : cmpI a b = 0 := by simp [cmpI, h1, h2]
      have Hr := Lib.hid hr; clear hr
      go_enter Tryz.func135, Tryz.ntmps135
      go_wp2
      go_ret
      exact ⟨by rw [Hr.out]; rfl, rfl⟩

set_option maxHeartbeats 1000000 in
theorem unpack_gr (x : Int) (w : World) (h0 : 0 ≤ x) (h1 : x ≤ 18446744073709551615) :
    Calls Tryz.prog 112 #[u64 x] w fun r w' => r = .returned (wd (x % 4) (x / 4 % 2) (x / 8 % 8192) (x / 65536 % 16777216) (x / 1099511627776)) ∧ Gr w w' := by
  have c1 : wrap64 (bits BinOp.and IntKind.u64 x 3) = x % 4 := by rw [and_mod x 3 4 2 rfl rfl (by omega) (by omega) (by omega)]; unfold wrap64; omega
  have c2 : wrap64 (bits BinOp.and IntKind.u64 (x / 4) 1) = x / 4 % 2 := by rw [and_mod _ 1 2 1 rfl rfl (by omega) (by omega) (by omega)]; unfold wrap64; omega
  have c3 : wrap64 (bits BinOp.and IntKind.u64 (x / 8) 8191) = x / 8 % 8192 := by rw [and_mod _ 8191 8192 13 rfl rfl (by omega) (by omega) (by omega)]; unfold wrap64; omega
  have c4 : wrap64 (bits BinOp.and IntKind.u64 (x / 65536) 16777215) = x / 65536 % 16777216 := by rw [and_mod _ 16777215 16777216 24 rfl rfl (by omega) (by omega) (by omega)]; unfold wrap64; omega
  have c5 : wrap64 (bits BinOp.and IntKind.u64 (x / 1099511627776) 16777215) = x / 1099511627776 := by rw [and_mod _ 16777215 16777216 24 rfl rfl (by omega) (by omega) (by omega)]; unfold wrap64; omega
  rw [← c1, ← c2, ← c3, ← c4]
  rw [← c5]
  clear c1 c2 c3 c4 c5
  go_enter Tryz.func112, Tryz.ntmps112
  go_wp2_with fail
  refine bodyPost_ret (v := wd (wrap64 (bits BinOp.and IntKind.u64 x 3)) (wrap64 (bits BinOp.and IntKind.u64 (x / 4) 1)) (wrap64 (bits BinOp.and IntKind.u64 (x / 8) 8191)) (wrap64 (bits BinOp.and IntKind.u64 (x / 65536) 16777215)) (wrap64 (bits BinOp.and IntKind.u64 (x / 1099511627776) 16777215))) (by simp [results, Tryz.results112, go_sem]) rfl ⟨rfl, (Gr.refl _).new _⟩
end

section
open Go.RowKit
set_option linter.unusedVariables false

theorem ret_false {a : Bool} (h : a = false) : Ending.returned (.bool a) = .returned (.bool false) := by rw [h]

set_option maxHeartbeats 1000000 in
theorem has_in (base : Nat) (w : World) (p c : Nat) (v : Value) (C : List Int) (L : List Ev) (i : Nat) (hM : IsMem base w p c v C L) (hi : i < C.length) :
    Calls Tryz.prog 104 #[pt p, i64 i] w fun r w' => r = .returned (.bool true) ∧ w = w' := by
  have c0 := hM.c0
  have hi' : (i : Int) < (C.length : Int) := by omega
  go_enter Tryz.func104, Tryz.ntmps104
  go_wp2
  go_ret
  exact ⟨rfl, rfl⟩

set_option maxHeartbeats 1000000 in
theorem has_out (base : Nat) (w : World) (p c : Nat) (v : Value) (C : List Int) (L : List Ev) (i : Int) (hM : IsMem base w p c v C L) (hi : i < 0 ∨ (C.length : Int) ≤ i) :
    Calls Tryz.prog 104 #[pt p, i64 i] w fun r w' => r = .returned (.bool false) ∧ w = w' := by
  have c0 := hM.c0
  rcases hi with hi | hi
  all_goals
    go_enter Tryz.func104, Tryz.ntmps104
    go_wp2
    go_ret
    exact ⟨ret_false (by first | rfl | (simp only [decide_eq_false_iff_not]; omega)), rfl⟩

set_option maxHeartbeats 4000000 in
theorem turn_any (base : Nat) (w : World) (p c : Nat) (v : Value) (C : List Int) (L : List Ev) (who op : Int) (i : Nat) (x next : Int) (ok : Bool) (hM : IsMem base w p c v C L) (hx : C[i]? = some x) (hb : base ≤ w.heap.size) (hL : L.length < 1000000000) (h0 : 0 ≤ next) (h1 : next ≤ 18446744073709551615) :
    Calls Tryz.prog 105 #[pt p, i64 who, i64 op, i64 i, u64 next, .bool ok] w (MemPost base w p c v (C.set i next) (L ++ [⟨who, op, i, x, next, ok⟩]) (.returned (.tuple #[]))) := by
  have c0 := hM.c0
  have c1 := hM.c1
  have cx := hM.at' hx
  have f0 := hM.fz 0
  have f1 := hM.fz 1
  have hi := (List.getElem?_eq_some_iff.1 hx).1
  have hi' : (i : Int) < (C.length : Int) := by omega
  have fx := hM.row.frozenAt i
  have hs := hM.ps
  have hcs := hM.cb
  have hne := hM.pc
  have HM := Lib.hid hM
  have HX := Lib.hid hx
  clear hM hx
  go_enter Tryz.func105, Tryz.ntmps105
  go_wp2_with fail
  go_region_law (refine step_append_grew rfl _ _ 90 rfl base 94 _ 6 48 elem_ev v L.length (flatE L) rfl ?_ (some ⟨w.heap.size, 0, none⟩) 1 1 (Ev.cells ⟨who, op, i, x, next, ok⟩) rfl ?_ (by unfold maxLen; omega) (by omega) ?_ ?_; (focus exact (HM.out.later (by first | exact (below_new (Below.refl _ _) _).drew | exact below_new (Below.refl _ _).drew _)).log); (focus exact src_one' w _ ⟨who, op, i, x, next, ok⟩ rfl); (focus (simp; omega)); intro v' w' hG; have HG := turn_facts HM.out HX.out (by first | exact (below_new (Below.refl _ _) _).drew | exact below_new (Below.refl _ _).drew _) hG; obtain ⟨c0', c1', cx', f0', f1', fx'⟩ := HG; obtain ⟨A', cap', rfl⟩ := own_shape hG.own; replace hG := Lib.hid hG)
  all_goals
    go_wp2
    go_end0
    exact ⟨rfl, _, turn_post HM.out hi (by first | exact (below_new (Below.refl _ _) _).drew | exact below_new (Below.refl _ _).drew _) hG.out h0 h1⟩
end

section
open Go.RowKit
set_option linter.unusedVariables false

/-- Numbers of 64 bits, put together. -/
def add64 (a b : Int) : Int := IntKind.u64.wrap (a + b)

theorem toList_made (n : Nat) : (madeCells (Value.int .u64 0).cells (n * 1)).toList = (List.replicate n (0 : Int)).map u64 := by
  rw [Nat.mul_one, List.map_replicate]
  exact toList_madeCells_one (.int .u64 0) n

theorem new_post {base n : Nat} {w w1 : World} (hb : base ≤ w.heap.size) (h : w1.ownsRow base 30 1 (.slice (some ⟨w.heap.size, 0, none⟩) n n) n (madeCells (Value.int .u64 0).cells (n * 1)).toList) (hg : w.grownBy w1 none) (hs : w.heap.size < w1.heap.size) :
    IsMem base (w1.alloc (.cells #[.slice (some ⟨w.heap.size, 0, none⟩) n n, .slice none 0 0] 117)) w1.heap.size w.heap.size (.slice none 0 0) (List.replicate n 0) [] ∧ Below w.heap.size w (w1.alloc (.cells #[.slice (some ⟨w.heap.size, 0, none⟩) n n, .slice none 0 0] 117)) := by
  rw [toList_made] at h
  have hl : (List.replicate n (0 : Int)).length = n := List.length_replicate
  refine ⟨⟨?_, World.cell?_alloc_new w1 _ _ 1, fun o => World.frozen?_alloc_at _ _ _ _ rfl, ?_, World.ownsRow_nil _ _ _ _, by omega, by simp [Value.ownBlock], by simp [Value.ownBlock], by omega, by simp, ?_⟩, ?_⟩
  · rw [hl]
    exact World.cell?_alloc_new w1 _ _ 0
  · rw [hl]
    exact h.alloc _
  · intro x hx
    rw [List.eq_of_mem_replicate hx]
    decide
  · exact below_new ((Below.refl _ _).grown hg (Nat.le_refl _) (fun k hk => by cases hk)) _

/-- Cells that were made just now, all nought. -/
def NewPost (base n : Nat) (w : World) (r : Ending) (w' : World) : Prop :=
  ∃ p c, r = .returned (pt p) ∧ IsMem base w' p c (.slice none 0 0) (List.replicate n 0) [] ∧ Below w.heap.size w w' ∧ w.heap.size ≤ p ∧ w.heap.size ≤ c

set_option maxHeartbeats 1000000 in
theorem new_nat (base : Nat) (n : Nat) (k : Int) (w : World) (hb : base ≤ w.heap.size) (h : n ≤ 65536) (hk : (k = n ∨ (k < 0 ∧ n ≤ 0) ∨ (65536 < k ∧ 65536 ≤ n))) :
    Calls Tryz.prog 36 #[i64 k] w (NewPost base n w) := by
  obtain ⟨i, hi, hz0, hz1, hz2⟩ := elem_u64.info
  rcases hk with rfl | ⟨hk, hn⟩ | ⟨hk, hn⟩
  all_goals
    go_enter Tryz.func36, Tryz.ntmps36
    go_wp2_with (refine wpList_make_full _ rfl _ _ 105 rfl base 30 i (.int .u64 0) 1 elem_u64.und hi hz0 hz1 .i64 .i64 _ _ n rfl rfl (by first | rfl | omega) (by first | rfl | omega) (by rw [hz2]; omega) (by unfold maxLen; omega) hb ?_; intro w1 hown hgrow; have hs1 := (hown.lt _ rfl).2)
    go_ret
    have hp := new_post hb hown hgrow hs1
    exact ⟨_, _, rfl, hp.1, hp.2, hgrow.size, Nat.le_refl _⟩

section
variable (base : Nat) (w : World) (p c : Nat) (v : Value) (C : List Int) (L : List Ev)

set_option maxHeartbeats 1000000 in
theorem load_out (who i : Int) (hM : IsMem base w p c v C L) (hi : i < 0 ∨ (C.length : Int) ≤ i) :
    Calls Tryz.prog 113 #[pt p, i64 who, i64 i] w fun r w' => r = .returned (u64 0) ∧ w = w' := by
  go_enter Tryz.func113, Tryz.ntmps113
  go_wp2_with fail
  refine (has_out base _ p c v C L i hM hi).mono ?_
  rintro r w1 ⟨rfl, rfl⟩
  go_wp2
  go_ret
  exact ⟨rfl, rfl⟩

set_option maxHeartbeats 1000000 in
theorem store_out (who i x : Int) (hM : IsMem base w p c v C L) (hi : i < 0 ∨ (C.length : Int) ≤ i) :
    Calls Tryz.prog 86 #[pt p, i64 who, i64 i, u64 x] w fun r w' => r = .returned (.tuple #[]) ∧ w = w' := by
  go_enter Tryz.func86, Tryz.ntmps86
  go_wp2_with fail
  refine (has_out base _ p c v C L i hM hi).mono ?_
  rintro r w1 ⟨rfl, rfl⟩
  go_wp2
  go_end0
  exact ⟨rfl, rfl⟩

set_option maxHeartbeats 1000000 in
theorem swap_out (who i x y : Int) (hM : IsMem base w p c v C L) (hi : i < 0 ∨ (C.length : Int) ≤ i) :
    Calls Tryz.prog 121 #[pt p, i64 who, i64 i, u64 x, u64 y] w fun r w' => r = .returned (.bool false) ∧ w = w' := by
  go_enter Tryz.func121, Tryz.ntmps121
  go_wp2_with fail
  refine (has_out base _ p c v C L i hM hi).mono ?_
  rintro r w1 ⟨rfl, rfl⟩
  go_wp2
  go_ret
  exact ⟨rfl, rfl⟩

set_option maxHeartbeats 1000000 in
theorem add_out (who i x : Int) (hM : IsMem base w p c v C L) (hi : i < 0 ∨ (C.length : Int) ≤ i) :
    Calls Tryz.prog 117 #[pt p, i64 who, i64 i, u64 x] w fun r w' => r = .returned (u64 0) ∧ w = w' := by
  go_enter Tryz.func117, Tryz.ntmps117
  go_wp2_with fail
  refine (has_out base _ p c v C L i hM hi).mono ?_
  rintro r w1 ⟨rfl, rfl⟩
  go_wp2
  go_ret
  exact ⟨rfl, rfl⟩

theorem set_same {C : List Int} {i : Nat} {x : Int} (hx : C[i]? = some x) : C.set i x = C := by
  apply List.ext_getElem?
  intro j
  rw [List.getElem?_set]
  split
  · rename_i h
    subst h
    have := (List.getElem?_eq_some_iff.1 hx).1
    simp only [this, if_true, hx]
  · rfl

set_option maxHeartbeats 1000000 in
theorem load_in (who : Int) (i : Nat) (x : Int) (hM : IsMem base w p c v C L) (hx : C[i]? = some x) (hb : base ≤ w.heap.size) (hL : L.length < 1000000000) :
    Calls Tryz.prog 113 #[pt p, i64 who, i64 i] w (MemPost base w p c v C (L ++ [⟨who, 0, i, x, x, true⟩]) (.returned (u64 x))) := by
  have c0 := hM.c0
  have cx := hM.at' hx
  have hi := (List.getElem?_eq_some_iff.1 hx).1
  have hi' : (i : Int) < (C.length : Int) := by omega
  have ht := turn_any base w p c v C L who 0 i x x true hM hx hb hL (hM.numAt hx).1 (hM.numAt hx).2
  rw [set_same hx] at ht
  have HT := Lib.hid ht
  have HM := Lib.hid hM
  clear hM hx ht
  go_enter Tryz.func113, Tryz.ntmps113
  go_wp2_with fail
  refine (has_in base _ p c v C L i HM.out hi).mono ?_
  rintro r w1 ⟨rfl, rfl⟩
  go_wp2_with fail
  refine HT.out.mono ?_
  rintro r w1 ⟨rfl, v', hT⟩
  go_wp2
  go_ret
  exact ⟨rfl, v', hT⟩

set_option maxHeartbeats 1000000 in
theorem store_in (who : Int) (i : Nat) (x y : Int) (hM : IsMem base w p c v C L) (hx : C[i]? = some x) (hb : base ≤ w.heap.size) (hL : L.length < 1000000000) (h0 : 0 ≤ y) (h1 : y ≤ 18446744073709551615) :
    Calls Tryz.prog 86 #[pt p, i64 who, i64 i, u64 y] w (MemPost base w p c v (C.set i y) (L ++ [⟨who, 1, i, x, y, true⟩]) (.returned (.tuple #[]))) := by
  have hi := (List.getElem?_eq_some_iff.1 hx).1
  have ht := turn_any base w p c v C L who 1 i x y true hM hx hb hL h0 h1
  have HT := Lib.hid ht
  have HM := Lib.hid hM
  clear hM hx ht
  go_enter Tryz.func86, Tryz.ntmps86
  go_wp2_with fail
  refine (has_in base _ p c v C L i HM.out hi).mono ?_
  rintro r w1 ⟨rfl, rfl⟩
  go_wp2_with fail
  refine HT.out.mono ?_
  rintro r w1 ⟨rfl, v', hT⟩
  go_wp2
  go_end0
  exact ⟨rfl, v', hT⟩

set_option maxHeartbeats 1000000 in
theorem swap_yes (who : Int) (i : Nat) (x y : Int) (hM : IsMem base w p c v C L) (hx : C[i]? = some x) (hb : base ≤ w.heap.size) (hL : L.length < 1000000000) (h0 : 0 ≤ y) (h1 : y ≤ 18446744073709551615) :
    Calls Tryz.prog 121 #[pt p, i64 who, i64 i, u64 x, u64 y] w (MemPost base w p c v (C.set i y) (L ++ [⟨who, 2, i, x, y, true⟩]) (.returned (.bool true))) := by
  have c0 := hM.c0
  have cx := hM.at' hx
  have hi := (List.getElem?_eq_some_iff.1 hx).1
  have hi' : (i : Int) < (C.length : Int) := by omega
  have ht := turn_any base w p c v C L who 2 i x y true hM hx hb hL h0 h1
  have HT := Lib.hid ht
  have HM := Lib.hid hM
  clear hM hx ht
  go_enter Tryz.func121, Tryz.ntmps121
  go_wp2_with fail
  refine (has_in base _ p c v C L i HM.out hi).mono ?_
  rintro r w1 ⟨rfl, rfl⟩
  go_wp2_with fail
  refine HT.out.mono ?_
  rintro r w1 ⟨rfl, v', hT⟩
  go_wp2
  go_ret
  exact ⟨rfl, v', hT⟩

set_option maxHeartbeats 1000000 in
theorem swap_no (who : Int) (i : Nat) (x z y : Int) (hM : IsMem base w p c v C L) (hx : C[i]? = some x) (hb : base ≤ w.heap.size) (hL : L.length < 1000000000) (hne : x ≠ z) :
    Calls Tryz.prog 121 #[pt p, i64 who, i64 i, u64 z, u64 y] w (MemPost base w p c v C (L ++ [⟨who, 2, i, x, x, false⟩]) (.returned (.bool false))) := by
  have c0 := hM.c0
  have cx := hM.at' hx
  have hi := (List.getElem?_eq_some_iff.1 hx).1
  have hi' : (i : Int) < (C.length : Int) := by omega
  have ht := turn_any base w p c v C L who 2 i x x false hM hx hb hL (hM.numAt hx).1 (hM.numAt hx).2
  rw [set_same hx] at ht
  have HT := Lib.hid ht
  have HM := Lib.hid hM
  have hd : (x == z) = false := by simpa using hne
  have hd' : (x != z) = true := by simpa using hne
  clear hM hx ht
  go_enter Tryz.func121, Tryz.ntmps121
  go_wp2_with fail
  refine (has_in base _ p c v C L i HM.out hi).mono ?_
  rintro r w1 ⟨rfl, rfl⟩
  go_wp2_with fail
  refine HT.out.mono ?_
  rintro r w1 ⟨rfl, v', hT⟩
  go_wp2
  go_ret
  exact ⟨rfl, v', hT⟩

theorem add64_range (a b : Int) : 0 ≤ add64 a b ∧ add64 a b ≤ 18446744073709551615 := by
  unfold add64
  rw [IntKind.wrap_u64]
  omega

set_option maxHeartbeats 1000000 in
theorem add_in (who : Int) (i : Nat) (x y : Int) (hM : IsMem base w p c v C L) (hx : C[i]? = some x) (hb : base ≤ w.heap.size) (hL : L.length < 1000000000) :
    Calls Tryz.prog 117 #[pt p, i64 who, i64 i, u64 y] w (MemPost base w p c v (C.set i (add64 x y)) (L ++ [⟨who, 3, i, x, add64 x y, true⟩]) (.returned (u64 x))) := by
  have c0 := hM.c0
  have cx := hM.at' hx
  have hi := (List.getElem?_eq_some_iff.1 hx).1
  have hi' : (i : Int) < (C.length : Int) := by omega
  have ht := turn_any base w p c v C L who 3 i x (add64 x y) true hM hx hb hL (add64_range x y).1 (add64_range x y).2
  have HT := Lib.hid ht
  have HM := Lib.hid hM
  clear hM hx ht
  go_enter Tryz.func117, Tryz.ntmps117
  go_wp2_with fail
  refine (has_in base _ p c v C L i HM.out hi).mono ?_
  rintro r w1 ⟨rfl, rfl⟩
  go_wp2_with fail
  refine HT.out.mono ?_
  rintro r w1 ⟨rfl, v', hT⟩
  go_wp2
  go_ret
  exact ⟨rfl, v', hT⟩
end
end

section
open Go.RowKit
set_option linter.unusedVariables false

/-- A new list of events: its cells are in no block that was there, and nothing that was there has turned. -/
def LogPost (L : List Ev) (w : World) (r : Ending) (w' : World) : Prop :=
  ∃ v, r = .returned v ∧ w'.ownsRow w.heap.size 94 6 v L.length (flatE L) ∧ Below w.heap.size w w'

theorem src_row {w : World} {base : Nat} {g cap : Nat} {L : List Ev} (h : w.ownsRow base 94 6 (.slice (some ⟨g, 0, none⟩) L.length cap) L.length (flatE L)) : Src w 6 (some ⟨g, 0, none⟩) L.length (flatE L) :=
  ⟨(fun h => by cases h), flatE_length L, fun ad had j u hj => by cases had; exact h.cells rfl j u hj, flatE_one L⟩

set_option maxHeartbeats 1000000 in
theorem clone_any (base : Nat) (w : World) (v : Value) (L : List Ev) (h : w.ownsRow base 94 6 v L.length (flatE L)) (hL : L.length ≤ 1000000000) :
    Calls Tryz.prog 79 #[v] w (LogPost L w) := by
  rcases h.2 with ⟨rfl, h0⟩ | ⟨g, cap, cur, rfl, _, _⟩
  · have hl : L = [] := List.eq_nil_of_length_eq_zero h0
    subst hl
    clear h h0
    have q := fun W => run_eql_nil_slice (P := Tryz.prog) W 90 94 none 0 0 0 0 Tryz.underlying90
    go_enter Tryz.func79, Tryz.ntmps79
    go_wp2
    go_ret
    exact ⟨_, rfl, World.ownsRow_nil _ _ _ _, Below.refl _ _⟩
  · have hs := src_row h
    have Hs := Lib.hid hs
    clear hs h
    have q := fun W => Lib.run_eql_slice_nil (P := Tryz.prog) W 90 94 (some ⟨g, 0, none⟩) L.length cap 0 0 Tryz.underlying90
    go_enter Tryz.func79, Tryz.ntmps79
    go_wp2_with (at_builtin; refine list_append_grew rfl _ _ 90 rfl w.heap.size 94 _ 6 48 elem_ev (.slice (some ⟨w.heap.size, 0, none⟩) 0 0) 0 [] rfl (World.ownsRow_made w #[] 0 (Nat.le_refl _) (by unfold maxLen; omega) rfl) (some ⟨g, 0, none⟩) L.length cap (flatE L) rfl (src_later Hs.out (below_new (Below.refl _ _) _)) (by unfold maxLen; omega) (by omega) (by simp) ?_; intro v' w1 hG)
    go_ret
    rw [Nat.zero_add, List.nil_append] at hG
    exact ⟨_, rfl, hG.own, below_keep (below_new (Below.refl _ _) _) (Keep.of_grown (T := fun k => w.heap.size ≤ k) hG.grown (fun k hk => by cases hk; exact Nat.le_refl _)) (by simp) (fun i hi => hi)⟩

set_option maxHeartbeats 1000000 in
theorem log_any (base : Nat) (w : World) (p c : Nat) (v : Value) (C : List Int) (L : List Ev) (hM : IsMem base w p c v C L) (hL : L.length ≤ 1000000000) :
    Calls Tryz.prog 64 #[pt p] w (LogPost L w) := by
  have c1 := hM.c1
  obtain ⟨A, cap, rfl⟩ := own_shape hM.log
  have ho := hM.log
  clear hM
  have Ho := Lib.hid ho
  clear ho
  go_enter Tryz.func64, Tryz.ntmps64
  go_wp2_with fail
  refine (clone_any base _ _ L Ho.out hL).mono ?_
  rintro r w1 ⟨v', rfl, hr⟩
  go_wp2
  go_ret
  exact ⟨_, rfl, hr⟩

theorem mempost_step {base : Nat} {w w' : World} {p c : Nat} {v v' : Value} {C : List Int} {L : List Ev} (h : Touched base w w' p c v v' C L) : w.heap.size ≤ w'.heap.size := h.keep.size

end

section
open Go.RowKit
set_option linter.unusedVariables false

/-- What is known of cells that the call itself made. -/
structure Own (w0 w : World) (p c : Nat) (v : Value) (C : List Int) (L : List Ev) : Prop where
  mem : IsMem w0.heap.size w p c v C L
  size : w0.heap.size ≤ w.heap.size
  below : Below w0.heap.size w0 w

theorem Own.step {w0 w w' : World} {p c : Nat} {v v' : Value} {C C' : List Int} {L L' : List Ev} (h : Own w0 w p c v C L) (k : Touched w0.heap.size w w' p c v v' C' L') : Own w0 w' p c v' C' L' :=
  ⟨k.mem, Nat.le_trans h.size k.keep.size, below_keep h.below k.keep h.size (fun i hi => (h.mem.foot i hi).1)⟩
theorem Own.later {w0 w w' : World} {p c : Nat} {v : Value} {C : List Int} {L : List Ev} (h : Own w0 w p c v C L) (k : Below w.heap.size w w') : Own w0 w' p c v C L :=
  ⟨h.mem.later k, Nat.le_trans h.size k.size, below_step' h.below k h.size⟩
theorem Own.made {w0 w w' : World} {p c : Nat} {v : Value} {C : List Int} {L : List Ev} (hb : Below w0.heap.size w0 w) (hM : IsMem w0.heap.size w' p c v C L) (k : Below w.heap.size w w') : Own w0 w' p c v C L :=
  ⟨hM, Nat.le_trans hb.size k.size, below_step' hb k hb.size⟩

theorem wrap0 (x : Int) (h0 : 0 ≤ x) (h1 : x ≤ 18446744073709551615) : IntKind.u64.wrap (0 - x) = if x = 0 then 0 else 18446744073709551616 - x := by
  rw [IntKind.wrap_u64]
  split <;> omega

theorem add64_zero (y : Int) (h0 : 0 ≤ y) (h1 : y ≤ 18446744073709551615) : add64 y (IntKind.u64.wrap (-y)) = 0 := by
  unfold add64
  simp only [IntKind.wrap_u64]
  omega
theorem add64_back (x y : Int) (h0 : 0 ≤ y) (h1 : y ≤ 18446744073709551615) : add64 (add64 y x) (IntKind.u64.wrap (-x)) = y := by
  unfold add64
  simp only [IntKind.wrap_u64]
  omega
theorem add64_comm (x y : Int) : add64 x y = add64 y x := by
  unfold add64
  rw [Int.add_comm]

end

section
open Go.RowKit
set_option linter.unusedVariables false

theorem rows_u64 {w : World} {a0 : Option Addr} {len cap : Nat} (h : IsRows w [.inl .u64] a0 len cap) (hl : 0 < len) :
    ∃ b off, ∃ X : Nat → Int, a0 = some ⟨b, off, none⟩ ∧ len ≤ cap ∧ b < w.heap.size ∧ ∀ i, i < len → w.cell? ⟨b, off + i, none⟩ = some (u64 (X i)) ∧ 0 ≤ X i ∧ X i ≤ 18446744073709551615 := by
  obtain ⟨h1, h2, h3, h4, h5⟩ := h
  obtain ⟨b, off, rfl⟩ := h4 hl
  have hx : ∀ i, ∃ x : Int, i < len → w.cell? ⟨b, off + i, none⟩ = some (u64 x) ∧ 0 ≤ x ∧ x ≤ 18446744073709551615 := by
    intro i
    by_cases hi : i < len
    · obtain ⟨cs, hf, hc⟩ := h5 b off rfl i hi
      obtain ⟨c0, cs', rfl, hc0, hf'⟩ := fit_cons hf
      obtain ⟨x, rfl, hx⟩ := hc0
      have := hc 0 _ rfl
      simp only [List.length_cons, List.length_nil, Nat.zero_add, Nat.mul_one, Nat.add_zero] at this
      exact ⟨x, fun _ => ⟨this, bounds_u64 hx⟩⟩
    · exact ⟨0, fun h => absurd h hi⟩
  obtain ⟨X, hX⟩ := Classical.axiomOfChoice hx
  refine ⟨b, off, X, rfl, h1, ?_, fun i hi => hX i hi⟩
  exact World.block_lt_of_cell? w ⟨b, off + 0, none⟩ (hX 0 hl).1

/-- Who has had the number so far: nobody, or one. -/
def Raced (old x : Int) (first : Bool) (won : Int) : Prop := (first = true ∧ won = 0 ∧ x = old) ∨ (first = false ∧ won = 1 ∧ x ≠ old)

end

end Go.Proofs.YtpfjommkjkbonaaGreat
