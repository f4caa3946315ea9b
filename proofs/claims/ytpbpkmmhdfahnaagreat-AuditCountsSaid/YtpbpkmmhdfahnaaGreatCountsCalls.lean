/-
  The contract of package audit's Counts: how many words say each of the three. No condition but that numbers fit their kinds.
-/
import Derived.Test.YtpbpkmmhdfahnaaGreatAuditCount
import Derived.Test.YtpbpkmmhdfahnaaGreatAMem
import Derived.OwnWalk
namespace Go.Proofs.YtpbpkmmhdfahnaaGreat
open Go.RowKit
set_option linter.unusedVariables false
attribute [local go_sem ↓] fld0

theorem cntN_succ (st : Int) (C : List Int) (i : Nat) : stN st C (i + 1) = stN st C i + if C.getD i 0 % 4 = st then 1 else 0 := by
  unfold stN
  rw [cntN]
  simp only [decide_eq_true_eq]

set_option maxRecDepth 100000 in
set_option maxHeartbeats 4000000 in
theorem acounts_any (w : World) (g N cap : Nat) (C : List Int) (h : ∀ i, i < N → w.cell? ⟨g, i, none⟩ = some (u64 (C.getD i 0))) (hf : ∀ j, 0 ≤ C.getD j 0 ∧ C.getD j 0 ≤ 18446744073709551615) (hN : N ≤ 5000) (hc : N ≤ cap) :
    Calls Tryz.prog 13 #[.slice (some ⟨g, 0, none⟩) N cap] w fun r w' => r = .returned (.tuple #[i64 (stN 0 C N), i64 (stN 1 C N), i64 (stN 2 C N)]) ∧ Below w.heap.size w w' := by
  have HC := Lib.hid h
  have HF := Lib.hid hf
  clear h hf
  go_enter Tryz.func13, Tryz.ntmps13
  go_wp2_with fail
  go_loopw [5, 6, 7, 12] (fun fv lv gv iw wr => ∃ i a b c : Nat, i ≤ N ∧ a ≤ i ∧ b ≤ i ∧ c ≤ i ∧ fv = .int .i64 a ∧ lv = .int .i64 b ∧ gv = .int .i64 c ∧ iw = .int .i64 i ∧ Hid (stN 0 C i = a ∧ stN 1 C i = b ∧ stN 2 C i = c) ∧ Hid (Below w.heap.size w wr)) (fun _ _ _ iw _ => N - (RowKit.intOf iw).toNat)
  case atStart => exact ⟨0, 0, 0, 0, Nat.zero_le _, Nat.le_refl _, Nat.le_refl _, Nat.le_refl _, rfl, rfl, rfl, rfl, ⟨rfl, rfl, rfl⟩, Below.refl _ _⟩
  case round =>
    obtain ⟨i, a, b, c, hi, ha, hb, hc2, rfl, rfl, rfl, rfl, HS, HB⟩ := hrel
    rcases Nat.lt_or_ge i N with hil | hil
    · have hil' : (i : Int) < (N : Int) := by omega
      have hcell := HC.out i hil
      have hgl : g < w.heap.size := World.block_lt_of_cell? w _ hcell
      have hcell2 := (HB.out.cell (p := ⟨g, i, none⟩) hgl).trans hcell
      obtain ⟨x, hx⟩ : ∃ x, C.getD i 0 = x := ⟨_, rfl⟩
      have hxf := HF.out i
      rw [hx] at hcell2 hxf
      obtain ⟨x0, x1⟩ := hxf
      have s0 := cntN_succ 0 C i
      have s1 := cntN_succ 1 C i
      have s2 := cntN_succ 2 C i
      rw [hx, HS.out.1] at s0
      rw [hx, HS.out.2.1] at s1
      rw [hx, HS.out.2.2] at s2
      clear hcell hx HS
      obtain ⟨st, hst⟩ : ∃ st, x % 4 = st := ⟨_, rfl⟩
      rw [hst] at s0 s1 s2
      have HST := Lib.hid hst
      rcases (by omega : st = 0 ∨ st = 1 ∨ st = 2 ∨ st = 3) with hq | hq | hq | hq
      · rw [if_pos hq] at s0
        rw [if_neg (by omega)] at s1 s2
        have HS2 : Hid (stN 0 C (i + 1) = a + 1 ∧ stN 1 C (i + 1) = b ∧ stN 2 C (i + 1) = c) := Lib.hid ⟨s0, s1, s2⟩
        have HQ := Lib.hid hq
        clear s0 s1 s2 hst hq
        go_wp2_with fail
        refine (unpack_any x _ x0 x1).mono ?_
        rintro r w1 ⟨rfl, hb1⟩
        rw [HST.out, HQ.out]
        have HB1 := Lib.hid (below_step HB.out hb1)
        clear hb1 HB hcell2
        go_wp2_with fail
        go_roundw
        case rel => exact ⟨i + 1, a + 1, b, c, by omega, by omega, by omega, by omega, by go_num, rfl, rfl, by go_num, HS2, HB1⟩
        case measure => first | omega | (simp [RowKit.intOf]; done) | (simp [RowKit.intOf]; omega)
      · rw [if_pos hq] at s1
        rw [if_neg (by omega)] at s0 s2
        have HS2 : Hid (stN 0 C (i + 1) = a ∧ stN 1 C (i + 1) = b + 1 ∧ stN 2 C (i + 1) = c) := Lib.hid ⟨s0, s1, s2⟩
        have HQ := Lib.hid hq
        clear s0 s1 s2 hst hq
        go_wp2_with fail
        refine (unpack_any x _ x0 x1).mono ?_
        rintro r w1 ⟨rfl, hb1⟩
        rw [HST.out, HQ.out]
        have HB1 := Lib.hid (below_step HB.out hb1)
        clear hb1 HB hcell2
        go_wp2_with fail
        go_roundw
        case rel => exact ⟨i + 1, a, b + 1, c, by omega, by omega, by omega, by omega, rfl, by go_num, rfl, by go_num, HS2, HB1⟩
        case measure => first | omega | (simp [RowKit.intOf]; done) | (simp [RowKit.intOf]; omega)
      · rw [if_pos hq] at s2
        rw [if_neg (by omega)] at s0 s1
        have HS2 : Hid (stN 0 C (i + 1) = a ∧ stN 1 C (i + 1) = b ∧ stN 2 C (i + 1) = c + 1) := Lib.hid ⟨s0, s1, s2⟩
        have HQ := Lib.hid hq
        clear s0 s1 s2 hst hq
        go_wp2_with fail
        refine (unpack_any x _ x0 x1).mono ?_
        rintro r w1 ⟨rfl, hb1⟩
        rw [HST.out, HQ.out]
        have HB1 := Lib.hid (below_step HB.out hb1)
        clear hb1 HB hcell2
        go_wp2_with fail
        go_roundw
        case rel => exact ⟨i + 1, a, b, c + 1, by omega, by omega, by omega, by omega, rfl, rfl, by go_num, by go_num, HS2, HB1⟩
        case measure => first | omega | (simp [RowKit.intOf]; done) | (simp [RowKit.intOf]; omega)
      · rw [if_neg (by omega)] at s0 s1 s2
        have HS2 : Hid (stN 0 C (i + 1) = a ∧ stN 1 C (i + 1) = b ∧ stN 2 C (i + 1) = c) := Lib.hid ⟨s0, s1, s2⟩
        have HQ := Lib.hid hq
        clear s0 s1 s2 hst hq
        go_wp2_with fail
        refine (unpack_any x _ x0 x1).mono ?_
        rintro r w1 ⟨rfl, hb1⟩
        rw [HST.out, HQ.out]
        have HB1 := Lib.hid (below_step HB.out hb1)
        clear hb1 HB hcell2
        go_wp2_with fail
        go_roundw
        case rel => exact ⟨i + 1, a, b, c, by omega, by omega, by omega, by omega, rfl, rfl, rfl, by go_num, HS2, HB1⟩
        case measure => first | omega | (simp [RowKit.intOf]; done) | (simp [RowKit.intOf]; omega)
    · obtain rfl : i = N := by omega
      have hnn : ¬ (i : Int) < (i : Int) := by omega
      go_wp2_with fail
      go_ret3
      exact ⟨by rw [HS.out.1, HS.out.2.1, HS.out.2.2]; rfl, HB.out⟩
end Go.Proofs.YtpbpkmmhdfahnaaGreat
