/-
  LinCuts answers true for all lists of deeds and all numbers, and leaves all memory that was there as it was. No condition.
-/
import Derived.Test.YtgoncakjkippkabLinRows
namespace Go.Proofs.Ytgoncakjkippkab
open Go.RowKit
set_option linter.unusedVariables false

theorem IsDds.takel {w : World} {a : Option Addr} {len cap tb off m : Nat} {l : List Dd} (h : IsDds w a len cap tb off l) (hm : m ≤ len) : IsDds w a m cap tb off (l.take m) := by
  obtain ⟨h1, h2, h3, h4⟩ := h
  refine ⟨by rw [List.length_take]; omega, by omega, fun hp => h3 (by omega), fun i d hd => ?_⟩
  have hi := (List.getElem?_eq_some_iff.1 hd).1
  rw [List.length_take] at hi
  rw [List.getElem?_take_of_lt (by omega)] at hd
  exact h4 i d hd
theorem cut_atl (a : Int) (n : Nat) (hn : n ≤ 60) : ∃ m : Nat, wrap64 ((IntKind.u64.wrap a).tmod ((n : Int) + 1)) = (m : Int) ∧ m ≤ n := by
  have h0 : 0 ≤ IntKind.u64.wrap a := by
    rw [IntKind.wrap_u64]
    omega
  rw [Int.tmod_eq_emod_of_nonneg h0]
  have h1 := Int.emod_nonneg (IntKind.u64.wrap a) (b := (n : Int) + 1) (by omega)
  have h2 := Int.emod_lt_of_pos (IntKind.u64.wrap a) (b := (n : Int) + 1) (by omega)
  generalize IntKind.u64.wrap a % ((n : Int) + 1) = r at h1 h2 ⊢
  refine ⟨r.toNat, ?_, by omega⟩
  unfold wrap64
  omega

set_option maxRecDepth 100000 in
set_option maxHeartbeats 4000000 in
theorem walk_LinCuts (a0 : Option Addr) (len0 cap0 : Nat) (a1 : Int) (w : World) (w0 : IsRows w [.inl .i64, .inl .i64, .inl .i64, .inl .u64, .inl .i64, .inl .i64, .inl .i64, .inr true, .inl .u64, .inl .i64, .inl .i64] a0 len0 cap0) (w1 : (Lit.int .i64 a1).wf = true) :
    Calls Try.prog 3 #[.slice a0 len0 cap0, .int .i64 a1] w fun e w' => e = .returned (.bool true) ∧ Below w.heap.size w w' := by
  rcases Nat.lt_or_ge 60 len0 with hbig | hs
  · have hbig' : (60 : Int) < (len0 : Int) := by omega
    clear w0
    go_enter Try.func3, Try.ntmps3
    go_wp2_with fail
    refine (head15_any _).mono ?_
    rintro e w1 ⟨rfl, hb1⟩
    go_wp2_with fail
    go_ret
    exact ⟨rfl, hb1⟩
  have p0 : decide ((60 : Int) < (len0 : Int)) = false := decide_eq_false (by omega)
  obtain ⟨tb, off, l, hL, _⟩ := rows_dds w0
  have HL := Lib.hid hL
  have hca := hL.2.1
  clear w0 hL
  go_enter Try.func3, Try.ntmps3
  go_wp2_with fail
  refine (head15_any _).mono ?_
  rintro e w2 ⟨rfl, hb1⟩
  have HB1 := Lib.hid hb1
  have HL1 := Lib.hid (HL.out.later hb1 (fun h => (HL.out.2.2.1 h).2))
  clear hb1 HL
  by_cases hr : ∀ d ∈ l, cOk d
  case neg =>
    have HR := Lib.hid hr
    clear hr
    go_wp2_with fail
    refine (lrights_any _ _ _ _ _ _ _ false HL1.out (by omega) ⟨fun h => Bool.noConfusion h, fun h => absurd h HR.out⟩).mono ?_
    rintro e w3 ⟨rfl, hb3⟩
    have HB3 := Lib.hid (below_step HB1.out hb3)
    clear hb3
    go_wp2_with fail
    go_ret
    exact ⟨rfl, HB3.out⟩
  have HR := Lib.hid hr
  clear hr
  go_wp2_with fail
  refine (lrights_any _ _ _ _ _ _ _ true HL1.out (by omega) ⟨fun _ => HR.out, fun _ => rfl⟩).mono ?_
  rintro e w3 ⟨rfl, hb3⟩
  have HB3 := Lib.hid (below_step HB1.out hb3)
  have HL3 := Lib.hid (HL1.out.later hb3 (fun h => (HL1.out.2.2.1 h).2))
  clear hb3 HB1 HL1
  obtain ⟨m, hm, hml⟩ := cut_atl a1 len0 hs
  have hmc : m ≤ cap0 := by omega
  have HM := Lib.hid hml
  cases hbb : (dRun [] l).isSome
  case false =>
    have HBB := Lib.hid hbb.symm
    clear hbb
    go_wp2_with fail
    refine (legal_any _ _ _ _ _ _ _ false HL3.out (by omega) HBB.out).mono ?_
    rintro e w4 ⟨rfl, hb4⟩
    have HB4 := Lib.hid (below_step HB3.out hb4)
    clear hb4
    go_wp2_with fail
    go_ret
    exact ⟨rfl, HB4.out⟩
  case true =>
    have HBB := Lib.hid hbb.symm
    have hb2 : true = (dRun [] (l.take m)).isSome := by
      obtain ⟨r, hr⟩ := Option.isSome_iff_exists.1 hbb
      obtain ⟨r2, hr2⟩ := dRun_take hr m
      rw [hr2]
      rfl
    have HB2 := Lib.hid hb2
    clear hbb hb2
    go_wp2_with fail
    refine (legal_any _ _ _ _ _ _ _ true HL3.out (by omega) HBB.out).mono ?_
    rintro e w4 ⟨rfl, hb4⟩
    have HB4 := Lib.hid (below_step HB3.out hb4)
    have HL4 := Lib.hid (HL3.out.later hb4 (fun h => (HL3.out.2.2.1 h).2))
    clear hb4 HB3 HL3
    go_wp2_with fail
    refine (legal_any _ _ m cap0 tb off (l.take m) true (HL4.out.takel HM.out) (by omega) HB2.out).mono ?_
    rintro e w5 ⟨rfl, hb5⟩
    have HB5 := Lib.hid (below_step HB4.out hb5)
    have HL5 := Lib.hid (HL4.out.later hb5 (fun h => (HL4.out.2.2.1 h).2))
    clear hb5 HB4 HL4
    go_wp2_with fail
    refine (llegal_any _ _ _ _ _ _ _ true HL5.out (by omega) HBB.out).mono ?_
    rintro e w6 ⟨rfl, hb6⟩
    have HB6 := Lib.hid (below_step HB5.out hb6)
    clear hb6
    go_wp2_with fail
    go_ret
    exact ⟨rfl, HB6.out⟩
end Go.Proofs.Ytgoncakjkippkab
