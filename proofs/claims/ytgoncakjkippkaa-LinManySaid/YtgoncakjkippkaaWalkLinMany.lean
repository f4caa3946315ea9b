/-
  LinMany answers true for all numbers, and leaves all memory that was there as it was. No condition.
-/
import Derived.Test.YtgoncakjkippkaaLinRows
namespace Go.Proofs.Ytgoncakjkippkaa
open Go.RowKit
set_option linter.unusedVariables false

/-- The call of that number. -/
def mD (i : Nat) : Dd := ⟨0, 0, 0, i, 0, 2 * (i : Int), 2 * (i : Int) + 1, true, 0, 0, 0⟩
def mL (n : Nat) : List Dd := (List.range n).map mD
theorem mL_succ (n : Nat) : mL (n + 1) = mL n ++ [mD n] := by
  unfold mL
  rw [List.range_succ, List.map_append]
  rfl
theorem mL_len (n : Nat) : (mL n).length = n := by
  unfold mL
  simp
theorem mL_one (n : Nat) : OneBy (mL n) := fun i d hd => by
  unfold mL at hd
  rw [List.getElem?_map] at hd
  obtain ⟨j, hj, rfl⟩ := Option.map_eq_some_iff.1 hd
  obtain ⟨h1, h2⟩ := List.getElem?_eq_some_iff.1 hj
  rw [List.getElem_range] at h2
  subst h2
  exact ⟨rfl, rfl⟩
theorem mL_run : ∀ (n : Nat), ∃ r, dRun [] (mL n) = some r
  | 0 => ⟨[], rfl⟩
  | n + 1 => by
    obtain ⟨r, hr⟩ := mL_run n
    rw [mL_succ, dRun_append, hr]
    exact ⟨_, (dRun_cons (d := mD n) (l := []) (dDo_p rfl rfl)).trans rfl⟩
theorem mL_fit {n : Nat} (hn : n ≤ 100) : ∀ d ∈ mL n, d.Fit ∧ ¬ dBef d d ∧ (d.e = 0 ∨ d.e = 1) := fun d hd => by
  obtain ⟨i, hi, rfl⟩ := List.mem_map.1 hd
  have := List.mem_range.1 hi
  refine ⟨⟨by show (Lit.int .i64 0).wf = true; decide, by show _ ≤ 2 * (i : Int); omega, by show 2 * (i : Int) ≤ _; omega, by show _ ≤ 2 * (i : Int) + 1; omega, by show 2 * (i : Int) + 1 ≤ _; omega⟩, fun h => ?_, .inl rfl⟩
  have h2 : (2 * (i : Int) + 1) < 2 * (i : Int) := h.2
  omega

set_option maxRecDepth 100000 in
set_option maxHeartbeats 4000000 in
theorem walk_LinMany (a0 : Int) (w : World) (w0 : (Lit.int .i64 a0).wf = true) :
    Calls Try.prog 7 #[.int .i64 a0] w fun e w' => e = .returned (.bool true) ∧ Below w.heap.size w w' := by
  obtain ⟨n, hn, hn15⟩ : ∃ n : Nat, bits .and .i64 a0 15 = (n : Int) ∧ n ≤ 15 := by
    refine ⟨(a0 % 16).toNat, ?_, by omega⟩
    rw [show (15 : Int) = ((15 : Nat) : Int) from rfl, and_i64 a0 15 4 rfl (by decide)]
    show a0 % 16 = _
    omega
  clear w0
  go_enter Try.func7, Try.ntmps7
  go_wp2_with fail
  refine (head15_any _).mono ?_
  rintro e w1 ⟨rfl, hb1⟩
  have HB1 := Lib.hid hb1
  clear hb1
  go_wp2_with fail
  have HO0 := Lib.hid (OwnD.nil HB1.out)
  clear hn
  go_loopw [3, 4] (fun vv iw wr => ∃ (i : Nat) (A : Option Addr) (c : Nat), i ≤ n ∧ vv = .slice A i c ∧ iw = .int .i64 i ∧ Hid (OwnD w wr (.slice A i c) i (mL i))) (fun _ iw _ => n - (RowKit.intOf iw).toNat)
  case atStart => exact ⟨0, _, 0, Nat.zero_le _, rfl, rfl, HO0⟩
  case round =>
    clear HO0
    obtain ⟨i, A, c, hi, rfl, rfl, HO⟩ := hrel
    rcases Nat.lt_or_ge i n with hil | hil
    · have hil' : (i : Int) < (n : Int) := by omega
      have hwi : IntKind.u64.wrap (i : Int) = (i : Int) := by rw [IntKind.wrap_u64]; omega
      have HRA := Lib.hid (HO.out.later (below_new (Below.refl _ _) ((mD i).obj 33)))
      go_wp2_with (at_builtin; refine list_append_grew rfl _ _ 38 rfl w.heap.size 33 _ 11 88 elem_dd (.slice A i c) i (flatD (mL i)) rfl HRA.out.2.2 (some ⟨_, 0, none⟩) 1 1 (mD i).list rfl (src_dl _ (mD i)) (by unfold maxLen; omega) (by omega) HRA.out.2.1.size ?_; intro v' w5 hG)
      have hO5 := HRA.out.grew hG
      obtain ⟨A5, c5, rfl⟩ := hO5.shape
      have HO5 : Hid (OwnD w w5 (.slice A5 (i + 1) c5) (i + 1) (mL (i + 1))) := by
        rw [mL_succ]
        exact hO5
      clear hG hO5 hwi
      go_wp2_with fail
      go_roundw
      case rel => exact ⟨i + 1, A5, c5, by omega, rfl, by go_num, HO5⟩
      case measure => first | omega | (simp [RowKit.intOf]; done) | (simp [RowKit.intOf]; omega)
    · obtain rfl : i = n := by omega
      have hnl : ¬ (i : Int) < (i : Int) := by omega
      obtain ⟨tb2, hD2⟩ := HO.out.dds (fun d hd => (mL_fit (by omega) d hd).1)
      have HD2 := Lib.hid hD2
      have HB5 := Lib.hid HO.out.2.1
      clear hD2 HO
      go_wp2_with fail
      refine (find_any _ _ _ _ _ _ _ HD2.out (fun d hd => (mL_fit (by omega) d hd).2.1) (fun d hd => (mL_fit (by omega) d hd).2.2) (by omega)).mono ?_
      rintro r w6 ⟨hb6, hcase⟩
      have HB6 := Lib.hid (below_step HB5.out hb6)
      have HD6 := Lib.hid (HD2.out.later hb6 (fun h => (HD2.out.2.2.1 h).2))
      clear hb6 HB5 HD2
      obtain ⟨rr, hrr⟩ := mL_run i
      have HRR : Hid (true = (dRun [] (mL i)).isSome) := by show true = _; rw [hrr]; rfl
      clear hrr
      rcases Nat.lt_or_ge 9 i with h9 | h9
      · rcases hcase with ⟨A6, c6, O, h96, _⟩ | ⟨rfl, _⟩
        · omega
        have q1 : decide ((i : Int) ≤ 9) = false := decide_eq_false (by omega)
        go_wp2_with fail
        refine (legal_any _ _ _ _ _ _ _ true HD6.out (by omega) HRR.out).mono ?_
        rintro r w7 ⟨rfl, hb7⟩
        have HB7 := Lib.hid (below_step HB6.out hb7)
        clear hb7
        go_wp2_with fail
        go_ret
        exact ⟨rfl, HB7.out⟩
      · rcases hcase with ⟨A6, c6, O, h96, rfl, _, hlin⟩ | ⟨rfl, hno⟩
        · have hO := (one_order (mL_one i) hlin.holds).1
          have hOl : O.length = i := by rw [hO, List.length_range, mL_len]
          have q1 : decide ((i : Int) ≤ 9) = true := decide_eq_true (by omega)
          rw [hOl]
          clear hlin hO hOl
          go_wp2_with fail
          refine (legal_any _ _ _ _ _ _ _ true HD6.out (by omega) HRR.out).mono ?_
          rintro r w7 ⟨rfl, hb7⟩
          have HB7 := Lib.hid (below_step HB6.out hb7)
          clear hb7
          go_wp2_with fail
          go_ret
          exact ⟨rfl, HB7.out⟩
        · obtain ⟨rr, hrr⟩ := mL_run i
          exact absurd ⟨_, (order_one (mL_one i) hrr).lin⟩ (hno.resolve_left (by omega))
end Go.Proofs.Ytgoncakjkippkaa
