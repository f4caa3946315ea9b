/-
  LinOrders answers true for all lists of deeds, and leaves all memory that was there as it was. No condition.
-/
import Derived.Test.YtgoncakjkippkaaLinRows
namespace Go.Proofs.Ytgoncakjkippkaa
open Go.RowKit
set_option linter.unusedVariables false

/-- A call as one thread's own. -/
def oD (i : Nat) (d : Dd) : Dd := { d with who := 0, fr := 2 * (i : Int), till := 2 * (i : Int) + 1 }
theorem oD_one (l : List Dd) : OneBy (l.mapIdx oD) := fun i d hd => by
  rw [List.getElem?_mapIdx] at hd
  obtain ⟨e, he, rfl⟩ := Option.map_eq_some_iff.1 hd
  exact ⟨rfl, rfl⟩
theorem oD_fit {l : List Dd} (hn : l.length ≤ 100) (hc : ∀ d ∈ l, cOk d) : ∀ d ∈ l.mapIdx oD, d.Fit ∧ ¬ dBef d d ∧ (d.e = 0 ∨ d.e = 1) := fun d hd => by
  obtain ⟨i, hi⟩ := List.mem_iff_getElem?.1 hd
  rw [List.getElem?_mapIdx] at hi
  obtain ⟨e, he, rfl⟩ := Option.map_eq_some_iff.1 hi
  have := (List.getElem?_eq_some_iff.1 he).1
  refine ⟨⟨by show (Lit.int .i64 0).wf = true; decide, by show _ ≤ 2 * (i : Int); omega, by show 2 * (i : Int) ≤ _; omega, by show _ ≤ 2 * (i : Int) + 1; omega, by show 2 * (i : Int) + 1 ≤ _; omega⟩, fun h => ?_, (hc e (List.mem_of_getElem? he)).2⟩
  have h2 : (2 * (i : Int) + 1) < 2 * (i : Int) := h.2
  omega
theorem oD_succ {l : List Dd} {i : Nat} {d : Dd} (hd : l[i]? = some d) : (l.take (i + 1)).mapIdx oD = (l.take i).mapIdx oD ++ [oD i d] := by
  have hi := (List.getElem?_eq_some_iff.1 hd).1
  rw [List.take_add_one, hd, Option.toList, List.mapIdx_concat, List.length_take, Nat.min_eq_left (by omega)]
theorem src_dlo (W : World) (b : Nat) (hb : W.heap.size = b) (d : Dd) : Src (W.alloc (d.obj 33)) 11 (some ⟨b, 0, none⟩) 1 d.list := hb ▸ src_dl W d

set_option maxRecDepth 100000 in
set_option maxHeartbeats 4000000 in
theorem walk_LinOrders (a0 : Option Addr) (len0 cap0 : Nat) (w : World) (w0 : IsRows w [.inl .i64, .inl .i64, .inl .i64, .inl .u64, .inl .i64, .inl .i64, .inl .i64, .inr true, .inl .u64, .inl .i64, .inl .i64] a0 len0 cap0) :
    Calls Try.prog 6 #[.slice a0 len0 cap0] w fun e w' => e = .returned (.bool true) ∧ Below w.heap.size w w' := by
  rcases Nat.lt_or_ge 9 len0 with hbig | hs
  · have hbig' : (9 : Int) < (len0 : Int) := by omega
    clear w0
    go_enter Try.func6, Try.ntmps6
    go_wp2_with fail
    refine (head15_any _).mono ?_
    rintro e w1 ⟨rfl, hb1⟩
    go_wp2_with fail
    go_ret
    exact ⟨rfl, hb1⟩
  have p0 : decide ((9 : Int) < (len0 : Int)) = false := decide_eq_false (by omega)
  obtain ⟨tb, off, l, hL, _⟩ := rows_dds w0
  have HL := Lib.hid hL
  have hcap := hL.2.1
  clear w0 hL
  go_enter Try.func6, Try.ntmps6
  go_wp2_with fail
  refine (head15_any _).mono ?_
  rintro e w2 ⟨rfl, hb1⟩
  have HB1 := Lib.hid hb1
  have HL1 := Lib.hid (HL.out.later hb1 (fun h => (HL.out.2.2.1 h).2))
  clear hb1
  by_cases hr : ∀ d ∈ l, cOk d
  case neg =>
    have HR := Lib.hid hr
    clear hr
    go_wp2_with fail
    refine (lrights_any _ _ _ _ _ _ _ false HL1.out (by omega) ⟨fun h => Bool.noConfusion h, fun h => absurd h HR.out⟩).mono ?_
    rintro e w3 ⟨rfl, hb3⟩
    have HB3 := Lib.hid (below_step HB1.out hb3)
    clear hb3
    go_wp2_with fail
    go_ret
    exact ⟨rfl, HB3.out⟩
  have HR := Lib.hid hr
  clear hr
  go_wp2_with fail
  refine (lrights_any _ _ _ _ _ _ _ true HL1.out (by omega) ⟨fun _ => HR.out, fun _ => rfl⟩).mono ?_
  rintro e w3 ⟨rfl, hb3⟩
  have HB3 := Lib.hid (below_step HB1.out hb3)
  clear hb3 HB1 HL1
  go_wp2_with fail
  have HO0 := Lib.hid (OwnD.nil HB3.out)
  go_loopw [3, 23] (fun vv iw wr => ∃ (i : Nat) (A : Option Addr) (c : Nat), i ≤ len0 ∧ vv = .slice A i c ∧ iw = .int .i64 i ∧ Hid (OwnD w wr (.slice A i c) i ((l.take i).mapIdx oD))) (fun _ iw _ => len0 - (RowKit.intOf iw).toNat)
  case atStart => exact ⟨0, _, 0, Nat.zero_le _, rfl, rfl, by rw [List.take_zero]; exact HO0⟩
  case round =>
    clear HO0
    obtain ⟨i, A, c, hi, rfl, rfl, HO⟩ := hrel
    rcases Nat.lt_or_ge i len0 with hil | hil
    · have hil' : (i : Int) < (len0 : Int) := by omega
      obtain ⟨d, hd⟩ : ∃ d, l[i]? = some d := ⟨_, List.getElem?_eq_getElem (by rw [HL.out.1]; exact hil)⟩
      obtain ⟨rfl, htb⟩ := HL.out.2.2.1 (by omega)
      obtain ⟨hA, hF⟩ := (HL.out.later HO.out.2.1 (fun _ => htb)).2.2.2 i d hd
      obtain ⟨c0, c1, c2, c3, c4, c5, c6, c7, c8, c9, c10⟩ := hA
      have HD := Lib.hid hd
      have HRA := Lib.hid ((HO.out.later (below_new (Below.refl _ _) ((oD i d).obj 33))).later (below_new (Below.refl _ _) ((oD i d).obj 33)))
      clear hd hF
      go_wp2_with (at_builtin; refine list_append_grew rfl _ _ 38 rfl w.heap.size 33 _ 11 88 elem_dd (.slice A i c) i (flatD ((l.take i).mapIdx oD)) rfl HRA.out.2.2 (some ⟨_, 0, none⟩) 1 1 (oD i d).list rfl (src_dlo _ _ (by simp) (oD i d)) (by unfold maxLen; omega) (by omega) HRA.out.2.1.size ?_; intro v' w5 hG)
      have hO5 := HRA.out.grew hG
      obtain ⟨A5, k5, rfl⟩ := hO5.shape
      have HO5 : Hid (OwnD w w5 (.slice A5 (i + 1) k5) (i + 1) ((l.take (i + 1)).mapIdx oD)) := by
        rw [oD_succ HD.out]
        exact hO5
      clear hG hO5 c0 c1 c2 c3 c4 c5 c6 c7 c8 c9 c10
      go_wp2_with fail
      go_roundw
      case rel => exact ⟨i + 1, A5, _, by omega, rfl, by go_num, HO5⟩
      case measure => first | omega | (simp [RowKit.intOf]; done) | (simp [RowKit.intOf]; omega)
    · obtain rfl : i = len0 := by omega
      have hnl : ¬ (i : Int) < (i : Int) := by omega
      have hO := HO.out
      rw [List.take_of_length_le (by rw [HL.out.1]; exact Nat.le_refl _)] at hO
      have HFIT := Lib.hid (oD_fit (l := l) (by rw [HL.out.1]; omega) HR.out)
      obtain ⟨tb2, hD2⟩ := hO.dds (fun d hd => (HFIT.out d hd).1)
      have HD2 := Lib.hid hD2
      have HB5 := Lib.hid hO.2.1
      have HONE := Lib.hid (oD_one l)
      clear hO hD2 HO
      have hol : (l.mapIdx oD).length = i := by rw [List.length_mapIdx, HL.out.1]
      generalize l.mapIdx oD = L2 at HFIT HD2 HONE hol
      have HOL := Lib.hid hol
      clear hol
      go_wp2_with fail
      refine (find_any _ _ _ _ _ _ _ HD2.out (fun d hd => (HFIT.out d hd).2.1) (fun d hd => (HFIT.out d hd).2.2) (by omega)).mono ?_
      rintro r w6 ⟨hb6, hcase⟩
      have HB6 := Lib.hid (below_step HB5.out hb6)
      have HD6 := Lib.hid (HD2.out.later hb6 (fun h => (HD2.out.2.2.1 h).2))
      clear hb6 HB5 HD2
      rcases hcase with ⟨A6, c6, O, h96, rfl, hown, hlin⟩ | ⟨rfl, hno⟩
      case inl =>
        obtain ⟨hO, rr, hrr⟩ := one_order HONE.out hlin.holds
        have HRR : Hid (true = (dRun [] L2).isSome) := by show true = _; rw [hrr]; rfl
        have hOl : O.length = i := by rw [hO, List.length_range, HOL.out]
        rw [hOl] at hown ⊢
        have HOWN := Lib.hid hown
        have hkk : i ≤ c6 := by
          rcases hown.2 with ⟨hv, h0⟩ | ⟨g, cap', cur, hv, _, _, hc, _⟩
          · omega
          · cases hv
            exact hc
        have HOR := Lib.hid hO
        clear hlin hO hrr hown hOl
        go_wp2_with fail
        refine (llegal_any _ _ _ _ _ _ _ true HD6.out (by omega) HRR.out).mono ?_
        rintro r w7 ⟨rfl, hb7⟩
        have HB7 := Lib.hid (below_step HB6.out hb7)
        have HOW7 : Hid (w7.ownsRow _ 3 1 (.slice A6 i c6) i (O.map (fun i : Nat => i64 (i : Int)))) := (Keep.of_below (T := fun _ => False) hb7).row HOWN.out (fun _ _ h => h)
        clear hb7 HB6 HOWN
        go_wp2_with fail
        have HB0 := Lib.hid (Below.refl w7.heap.size w7)
        go_loopw [52] (fun jw wx => ∃ j : Nat, j ≤ i ∧ jw = .int .i64 j ∧ Hid (Below w7.heap.size w7 wx)) (fun jw _ => i - (RowKit.intOf jw).toNat)
        case atStart => exact ⟨0, Nat.zero_le _, rfl, HB0⟩
        case round =>
          clear HB0
          obtain ⟨j, hj, rfl, HB⟩ := hrel
          rcases Nat.lt_or_ge j i with hjl | hjl
          · have hjl' : (j : Int) < (i : Int) := by omega
            obtain ⟨g, cp, hv, hc, hg⟩ := row_shape HOW7.out (by omega)
            cases hv
            have k0 := (HB.out.cell (p := ⟨g, j, none⟩) hg).trans (row_int HOW7.out hjl)
            rw [show O.getD j 0 = j by rw [HOR.out, List.getD_eq_getElem?_getD, List.getElem?_range (by rw [HOL.out]; exact hjl)]; rfl] at k0
            go_wp2_with fail
            go_roundw
            case rel => exact ⟨j + 1, by omega, by go_num, HB⟩
            case measure => first | omega | (simp [RowKit.intOf]; done) | (simp [RowKit.intOf]; omega)
          · obtain rfl : j = i := by omega
            have hnj : ¬ (j : Int) < (j : Int) := by omega
            go_wp2_with fail
            go_ret
            exact ⟨rfl, below_step HB7.out HB.out⟩
      case inr =>
        have hnn : ¬ ∃ s, Lin L2 (fun _ => False) [] s := hno.resolve_left (by omega)
        have HRR : Hid (false = (dRun [] L2).isSome) := by
          show false = _
          cases hd : dRun [] L2 with
          | none => rfl
          | some rr => exact absurd ⟨_, (order_one HONE.out hd).lin⟩ hnn
        clear hno hnn
        go_wp2_with fail
        refine (llegal_any _ _ _ _ _ _ _ false HD6.out (by omega) HRR.out).mono ?_
        rintro r w7 ⟨rfl, hb7⟩
        have HB7 := Lib.hid (below_step HB6.out hb7)
        clear hb7 HB6
        go_wp2_with fail
        have HB0 := Lib.hid (Below.refl w7.heap.size w7)
        go_loopw [52] (fun jw wx => jw = .int .i64 0 ∧ Hid (Below w7.heap.size w7 wx)) (fun jw _ => 0)
        case atStart => exact ⟨rfl, HB0⟩
        case round =>
          clear HB0
          obtain ⟨rfl, HB⟩ := hrel
          go_wp2_with fail
          go_ret
          exact ⟨rfl, below_step HB7.out HB.out⟩
end Go.Proofs.Ytgoncakjkippkaa
