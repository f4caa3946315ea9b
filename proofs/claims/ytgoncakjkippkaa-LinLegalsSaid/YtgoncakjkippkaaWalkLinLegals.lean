/-
  LinLegals answers true for all lists of deeds, and leaves all memory that was there as it was. No condition.
-/
import Derived.Test.YtgoncakjkippkaaLinRows
namespace Go.Proofs.Ytgoncakjkippkaa
open Go.RowKit
set_option linter.unusedVariables false

set_option maxRecDepth 100000 in
set_option maxHeartbeats 4000000 in
theorem walk_LinLegals (a0 : Option Addr) (len0 cap0 : Nat) (w : World) (w0 : IsRows w [.inl .i64, .inl .i64, .inl .i64, .inl .u64, .inl .i64, .inl .i64, .inl .i64, .inr true, .inl .u64, .inl .i64, .inl .i64] a0 len0 cap0) :
    Calls Try.prog 4 #[.slice a0 len0 cap0] w fun e w' => e = .returned (.bool true) ∧ Below w.heap.size w w' := by
  rcases Nat.lt_or_ge 60 len0 with hbig | hs
  · have hbig' : (60 : Int) < (len0 : Int) := by omega
    clear w0
    go_enter Try.func4, Try.ntmps4
    go_wp2_with fail
    refine (head15_any _).mono ?_
    rintro e w1 ⟨rfl, hb1⟩
    go_wp2_with fail
    go_ret
    exact ⟨rfl, hb1⟩
  have p0 : decide ((60 : Int) < (len0 : Int)) = false := decide_eq_false (by omega)
  obtain ⟨tb, off, l, hL, _⟩ := rows_dds w0
  have HL := Lib.hid hL
  clear w0 hL
  go_enter Try.func4, Try.ntmps4
  go_wp2_with fail
  refine (head15_any _).mono ?_
  rintro e w2 ⟨rfl, hb1⟩
  have HB1 := Lib.hid hb1
  have HL1 := Lib.hid (HL.out.later hb1 (fun h => (HL.out.2.2.1 h).2))
  clear hb1 HL
  by_cases hr : ∀ d ∈ l, cOk d
  case neg =>
    have HR := Lib.hid hr
    clear hr
    go_wp2_with fail
    refine (lrights_any _ _ _ _ _ _ _ false HL1.out (by omega) ⟨fun h => Bool.noConfusion h, fun h => absurd h HR.out⟩).mono ?_
    rintro e w3 ⟨rfl, hb3⟩
    have HB3 := Lib.hid (below_step HB1.out hb3)
    clear hb3
    go_wp2_with fail
    go_ret
    exact ⟨rfl, HB3.out⟩
  case pos =>
    have HR := Lib.hid hr
    clear hr
    go_wp2_with fail
    refine (lrights_any _ _ _ _ _ _ _ true HL1.out (by omega) ⟨fun _ => HR.out, fun _ => rfl⟩).mono ?_
    rintro e w3 ⟨rfl, hb3⟩
    have HB3 := Lib.hid (below_step HB1.out hb3)
    have HL3 := Lib.hid (HL1.out.later hb3 (fun h => (HL1.out.2.2.1 h).2))
    clear hb3 HB1 HL1
    obtain ⟨bb, hbb⟩ : ∃ bb, bb = (dRun [] l).isSome := ⟨_, rfl⟩
    have HBB := Lib.hid hbb
    clear hbb
    go_wp2_with fail
    refine (legal_any _ _ _ _ _ _ _ bb HL3.out (by omega) HBB.out).mono ?_
    rintro e w4 ⟨rfl, hb4⟩
    have HB4 := Lib.hid (below_step HB3.out hb4)
    have HL4 := Lib.hid (HL3.out.later hb4 (fun h => (HL3.out.2.2.1 h).2))
    clear hb4 HB3 HL3
    go_wp2_with fail
    refine (llegal_any _ _ _ _ _ _ _ bb HL4.out (by omega) HBB.out).mono ?_
    rintro e w5 ⟨rfl, hb5⟩
    have HB5 := Lib.hid (below_step HB4.out hb5)
    clear hb5
    cases bb
    all_goals
      go_wp2_with fail
      go_ret
      exact ⟨rfl, HB5.out⟩
end Go.Proofs.Ytgoncakjkippkaa
