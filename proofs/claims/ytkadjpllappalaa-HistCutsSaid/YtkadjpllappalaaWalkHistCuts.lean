/-
  HistCuts answers true for all lists of deeds and all numbers, and leaves all memory that was there as it was. No condition.
-/
import Derived.Test.YtkadjpllappalaaHistHead
import Derived.Test.YtkadjpllappalaaHistOverCalls
import Derived.Test.YtkadjpllappalaaHistRightCalls
namespace Go.Proofs.Ytkadjpllappalaa
open Go.RowKit
set_option linter.unusedVariables false

theorem IsDds.take {w : World} {a : Option Addr} {len cap tb off m : Nat} {l : List Dd} (h : IsDds w a len cap tb off l) (hm : m ≤ len) : IsDds w a m cap tb off (l.take m) := by
  obtain ⟨h1, h2, h3, h4⟩ := h
  refine ⟨by rw [List.length_take]; omega, by omega, fun hp => h3 (by omega), fun i d hd => ?_⟩
  have hi := (List.getElem?_eq_some_iff.1 hd).1
  rw [List.length_take] at hi
  rw [List.getElem?_take_of_lt (by omega)] at hd
  exact h4 i d hd
theorem dMost_mono (l : List Dd) {i j : Nat} (h : i ≤ j) : dMost l i ≤ dMost l j := by
  induction j with
  | zero =>
    obtain rfl : i = 0 := by omega
    exact Nat.le_refl _
  | succ j ih =>
    by_cases e : i = j + 1
    · rw [e]
      exact Nat.le_refl _
    · rw [dMost]
      exact Nat.le_trans (ih (by omega)) (Nat.le_max_left _ _)
theorem dMost_take (l : List Dd) (m : Nat) : ∀ k, dMost (l.take m) k ≤ dMost l k
  | 0 => Nat.le_refl _
  | k + 1 => by
    have ih := dMost_take l m k
    rw [dMost, dMost]
    refine Nat.max_le.2 ⟨Nat.le_trans ih (Nat.le_max_left _ _), ?_⟩
    cases hd : (l.take m)[k]? with
    | none => exact Nat.zero_le _
    | some d =>
      have hk := (List.getElem?_eq_some_iff.1 hd).1
      rw [List.length_take] at hk
      rw [List.getElem?_take_of_lt (by omega)] at hd
      rw [hd]
      exact Nat.le_trans ((List.take_sublist m l).countP_le) (Nat.le_max_right _ _)
theorem overs_take (l : List Dd) (m : Nat) : (overs (l.take m)).length ≤ (overs l).length := ((List.take_sublist m l).filter _).length_le
theorem right_two (l : List Dd) {m n : Nat} (h : m ≤ n) : ∃ b b' : Bool, (b = true ↔ DRight l n) ∧ (b' = true ↔ DRight (l.take m) m) ∧ (b = true → b' = true) := by
  by_cases h1 : DRight l n <;> by_cases h2 : DRight (l.take m) m
  · exact ⟨true, true, ⟨fun _ => h1, fun _ => rfl⟩, ⟨fun _ => h2, fun _ => rfl⟩, fun _ => rfl⟩
  · exact absurd (DRight.take (fun i d hi hd => h1 i d (by omega) hd)) h2
  · exact ⟨false, true, ⟨fun hh => Bool.noConfusion hh, fun hh => absurd hh h1⟩, ⟨fun _ => h2, fun _ => rfl⟩, fun _ => rfl⟩
  · exact ⟨false, false, ⟨fun hh => Bool.noConfusion hh, fun hh => absurd hh h1⟩, ⟨fun hh => Bool.noConfusion hh, fun hh => absurd hh h2⟩, id⟩

theorem cut_at (a : Int) (n : Nat) (hn : n ≤ 60) : ∃ m : Nat, wrap64 ((IntKind.u64.wrap a).tmod ((n : Int) + 1)) = (m : Int) ∧ m ≤ n := by
  have h0 : 0 ≤ IntKind.u64.wrap a := by
    rw [IntKind.wrap_u64]
    omega
  rw [Int.tmod_eq_emod_of_nonneg h0]
  have h1 := Int.emod_nonneg (IntKind.u64.wrap a) (b := (n : Int) + 1) (by omega)
  have h2 := Int.emod_lt_of_pos (IntKind.u64.wrap a) (b := (n : Int) + 1) (by omega)
  generalize IntKind.u64.wrap a % ((n : Int) + 1) = r at h1 h2 ⊢
  refine ⟨r.toNat, ?_, by omega⟩
  unfold wrap64
  omega

set_option maxRecDepth 100000 in
set_option maxHeartbeats 4000000 in
theorem walk_HistCuts (a0 : Option Addr) (len0 cap0 : Nat) (a1 : Int) (w : World) (w0 : IsRows w [.inl .i64, .inl .i64, .inl .i64, .inl .u64, .inl .i64, .inl .i64, .inl .i64, .inr true, .inl .u64, .inl .i64, .inl .i64] a0 len0 cap0) (w1 : (Lit.int .i64 a1).wf = true) :
    Calls Try.prog 7 #[.slice a0 len0 cap0, .int .i64 a1] w fun e w' => e = .returned (.bool true) ∧ Below w.heap.size w w' := by
  rcases Nat.lt_or_ge 60 len0 with hbig | hs
  · have hbig' : (60 : Int) < (len0 : Int) := by omega
    clear w0
    go_enter Try.func7, Try.ntmps7
    go_wp2_with fail
    refine (head14_any _).mono ?_
    rintro e w1 ⟨rfl, hb1⟩
    go_wp2_with fail
    go_ret
    exact ⟨rfl, hb1⟩
  have p0 : decide ((60 : Int) < (len0 : Int)) = false := decide_eq_false (by omega)
  obtain ⟨tb, off, l, hL⟩ := rows_dds w0
  have HL := Lib.hid hL
  have hca := w0.1
  have hcm := w0.2.1
  have hno := w0.2.2.1
  clear w0 hL
  go_enter Try.func7, Try.ntmps7
  go_wp2_with fail
  refine (head14_any _).mono ?_
  rintro e w2 ⟨rfl, hb1⟩
  have HB1 := Lib.hid hb1
  have HL1 := Lib.hid (HL.out.later hb1 (fun h => (HL.out.2.2.1 h).2))
  obtain ⟨m, hm, hml⟩ := cut_at a1 len0 hs
  have HLM := Lib.hid (HL1.out.take hml)
  have hmc : m ≤ cap0 := by omega
  obtain ⟨b, b', hb, hb', hbb⟩ := right_two l hml
  have HBB := Lib.hid hb
  have HBB' := Lib.hid hb'
  have hmm : dMost (l.take m) m ≤ dMost l len0 := Nat.le_trans (dMost_take l m m) (dMost_mono l hml)
  have hoo := overs_take l m
  have hll := HL.out.1
  have hlm := HLM.out.1
  have HLL := Lib.hid hll
  have HLN := Lib.hid hlm
  clear hb1 hb hb' w1 hll hlm
  cases b
  case false =>
    go_wp2_with fail
    refine (right_any _ _ _ _ _ _ _ false HL1.out (by omega) HBB.out).mono ?_
    rintro e w3 ⟨rfl, hb3⟩
    have HL3 := Lib.hid (HL1.out.later hb3 (fun h => (HL1.out.2.2.1 h).2))
    have HLM3 := Lib.hid (HLM.out.later hb3 (fun h => (HLM.out.2.2.1 h).2))
    have HB3 := Lib.hid (below_step HB1.out hb3)
    clear hb3
    go_wp2_with fail
    refine (most_any _ _ _ _ _ _ _ HLM3.out (by omega)).mono ?_
    rintro e w4 ⟨rfl, hb4⟩
    have HL4 := Lib.hid (HL3.out.later hb4 (fun h => (HL3.out.2.2.1 h).2))
    have HLM4 := Lib.hid (HLM3.out.later hb4 (fun h => (HLM3.out.2.2.1 h).2))
    have HB4 := Lib.hid (below_step HB3.out hb4)
    clear hb4
    rw [HLN.out]
    go_wp2_with fail
    refine (most_any _ _ _ _ _ _ _ HL4.out (by omega)).mono ?_
    rintro e w5 ⟨rfl, hb5⟩
    have HL5 := Lib.hid (HL4.out.later hb5 (fun h => (HL4.out.2.2.1 h).2))
    have HLM5 := Lib.hid (HLM4.out.later hb5 (fun h => (HLM4.out.2.2.1 h).2))
    have HB5 := Lib.hid (below_step HB4.out hb5)
    clear hb5
    rw [HLL.out]
    have q1 : decide (dMost (l.take m) m ≤ dMost l len0) = true := decide_eq_true hmm
    clear hmm
    go_wp2_with fail
    refine (overs_any _ _ _ _ _ _ _ HLM5.out (by omega)).mono ?_
    rintro e w6 ⟨v, rfl, hr, hb6⟩
    obtain ⟨A, cp, rfl⟩ := own_shape hr
    have HL6 := Lib.hid (HL5.out.later hb6 (fun h => (HL5.out.2.2.1 h).2))
    have HB6 := Lib.hid (below_step HB5.out hb6)
    clear hb6 hr
    go_wp2_with fail
    refine (overs_any _ _ _ _ _ _ _ HL6.out (by omega)).mono ?_
    rintro e w7 ⟨v, rfl, hr, hb7⟩
    obtain ⟨A2, cp2, rfl⟩ := own_shape hr
    have HB7 := Lib.hid (below_step HB6.out hb7)
    have q2 : decide ((overs (l.take m)).length ≤ (overs l).length) = true := decide_eq_true hoo
    clear hb7 hr hoo
    go_wp2_with fail
    go_ret
    exact ⟨rfl, HB7.out⟩
  case true =>
    obtain rfl : b' = true := hbb rfl
    have HD1 : Hid (DRight l len0) := HBB.out.1 rfl
    have HD2 : Hid (DRight (l.take m) m) := HBB'.out.1 rfl
    clear HBB HBB' hbb
    go_wp2_with fail
    refine (right_any _ _ _ _ _ _ _ true HL1.out (by omega) ⟨fun _ => HD1.out, fun _ => rfl⟩).mono ?_
    rintro e w2 ⟨rfl, hb3⟩
    have HL2 := Lib.hid (HL1.out.later hb3 (fun h => (HL1.out.2.2.1 h).2))
    have HLM2 := Lib.hid (HLM.out.later hb3 (fun h => (HLM.out.2.2.1 h).2))
    have HB2 := Lib.hid (below_step HB1.out hb3)
    clear hb3
    go_wp2_with fail
    refine (right_any _ _ _ _ _ _ _ true HLM2.out (by omega) ⟨fun _ => HD2.out, fun _ => rfl⟩).mono ?_
    rintro e w3 ⟨rfl, hb3⟩
    have HL3 := Lib.hid (HL2.out.later hb3 (fun h => (HL2.out.2.2.1 h).2))
    have HLM3 := Lib.hid (HLM2.out.later hb3 (fun h => (HLM2.out.2.2.1 h).2))
    have HB3 := Lib.hid (below_step HB2.out hb3)
    clear hb3
    go_wp2_with fail
    refine (most_any _ _ _ _ _ _ _ HLM3.out (by omega)).mono ?_
    rintro e w4 ⟨rfl, hb4⟩
    have HL4 := Lib.hid (HL3.out.later hb4 (fun h => (HL3.out.2.2.1 h).2))
    have HLM4 := Lib.hid (HLM3.out.later hb4 (fun h => (HLM3.out.2.2.1 h).2))
    have HB4 := Lib.hid (below_step HB3.out hb4)
    clear hb4
    rw [HLN.out]
    go_wp2_with fail
    refine (most_any _ _ _ _ _ _ _ HL4.out (by omega)).mono ?_
    rintro e w5 ⟨rfl, hb5⟩
    have HL5 := Lib.hid (HL4.out.later hb5 (fun h => (HL4.out.2.2.1 h).2))
    have HLM5 := Lib.hid (HLM4.out.later hb5 (fun h => (HLM4.out.2.2.1 h).2))
    have HB5 := Lib.hid (below_step HB4.out hb5)
    clear hb5
    rw [HLL.out]
    have q1 : decide (dMost (l.take m) m ≤ dMost l len0) = true := decide_eq_true hmm
    clear hmm
    go_wp2_with fail
    refine (overs_any _ _ _ _ _ _ _ HLM5.out (by omega)).mono ?_
    rintro e w6 ⟨v, rfl, hr, hb6⟩
    obtain ⟨A, cp, rfl⟩ := own_shape hr
    have HL6 := Lib.hid (HL5.out.later hb6 (fun h => (HL5.out.2.2.1 h).2))
    have HB6 := Lib.hid (below_step HB5.out hb6)
    clear hb6 hr
    go_wp2_with fail
    refine (overs_any _ _ _ _ _ _ _ HL6.out (by omega)).mono ?_
    rintro e w7 ⟨v, rfl, hr, hb7⟩
    obtain ⟨A2, cp2, rfl⟩ := own_shape hr
    have HB7 := Lib.hid (below_step HB6.out hb7)
    have q2 : decide ((overs (l.take m)).length ≤ (overs l).length) = true := decide_eq_true hoo
    clear hb7 hr hoo
    go_wp2_with fail
    go_ret
    exact ⟨rfl, HB7.out⟩
end Go.Proofs.Ytkadjpllappalaa
