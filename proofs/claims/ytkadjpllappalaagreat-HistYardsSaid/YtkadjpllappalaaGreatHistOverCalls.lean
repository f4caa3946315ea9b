/-
  The contract of hist's Over: the calls that are over, in their order, as a new row. No condition but that the list is no longer than 100000.
-/
import Derived.Test.YtkadjpllappalaaGreatHistCalls
namespace Go.Proofs.YtkadjpllappalaaGreat
open Go.RowKit
set_option linter.unusedVariables false

/-- Those that are over. -/
def overs (l : List Dd) : List Dd := l.filter (fun d => decide (0 ≤ d.till))
theorem overs_le (l : List Dd) : (overs l).length ≤ l.length := List.length_filter_le _ _
theorem overs_yes {l : List Dd} {i : Nat} {d : Dd} (h : l[i]? = some d) (ho : 0 ≤ d.till) : overs (l.take (i + 1)) = overs (l.take i) ++ [d] := by
  unfold overs
  rw [List.take_add_one, h, List.filter_append]
  simp [ho]
theorem overs_no {l : List Dd} {i : Nat} {d : Dd} (h : l[i]? = some d) (ho : ¬ 0 ≤ d.till) : overs (l.take (i + 1)) = overs (l.take i) := by
  unfold overs
  rw [List.take_add_one, h, List.filter_append]
  simp [ho]
theorem src_bd (w : World) (d : Dd) : Src (w.alloc (d.obj 46)) 11 (some ⟨w.heap.size, 0, none⟩) 1 d.list := by
  have h := AtBd.made w d 46
  refine ⟨(fun h => by cases h), rfl, fun ad had j u hj => ?_, fun u hu => d.one u hu⟩
  cases had
  have e : (({ block := w.heap.size, off := 0, spot := none } : Addr).add j) = ⟨w.heap.size, j, none⟩ := by rw [addr_add, Nat.zero_add]
  rw [e]
  match j, hj with
  | 0, hj => cases hj; exact h.c0
  | 1, hj => cases hj; exact h.c1
  | 2, hj => cases hj; exact h.c2
  | 3, hj => cases hj; exact h.c3
  | 4, hj => cases hj; exact h.c4
  | 5, hj => cases hj; exact h.c5
  | 6, hj => cases hj; exact h.c6
  | 7, hj => cases hj; exact h.c7
  | 8, hj => cases hj; exact h.c8
  | 9, hj => cases hj; exact h.c9
  | 10, hj => cases hj; exact h.c10
  | n + 11, hj => simp [Dd.list] at hj

set_option maxRecDepth 100000 in
set_option maxHeartbeats 4000000 in
theorem overs_any (w : World) (a0 : Option Addr) (len cap tb off : Nat) (l : List Dd) (h : IsDds w a0 len cap tb off l) (hn : len ≤ 100000) :
    Calls Tryz.prog 11 #[.slice a0 len cap] w fun e w' => ∃ v, e = .returned v ∧ w'.ownsRow w.heap.size 46 11 v (overs l).length (flatD (overs l)) ∧ Below w.heap.size w w' := by
  have HL := Lib.hid h
  clear h
  go_enter Tryz.func11, Tryz.ntmps11
  go_wp2_with fail
  have HR0 : Hid (w.ownsRow w.heap.size 46 11 (.slice none 0 0) (overs (l.take 0)).length (flatD (overs (l.take 0)))) := World.ownsRow_nil _ _ _ _
  go_loopw [3, 8] (fun v iw wr => ∃ i : Nat, i ≤ len ∧ iw = .int .i64 i ∧ Hid (Below w.heap.size w wr) ∧ Hid (wr.ownsRow w.heap.size 46 11 v (overs (l.take i)).length (flatD (overs (l.take i))))) (fun _ iw _ => len - (intOf iw).toNat)
  case atStart => exact ⟨0, Nat.zero_le _, rfl, Below.refl _ _, HR0⟩
  case round =>
    clear HR0
    obtain ⟨i, hi, rfl, HB, HR⟩ := hrel
    rcases Nat.lt_or_ge i len with hil | hil
    · have hil' : (i : Int) < (len : Int) := by omega
      obtain ⟨d, hd⟩ : ∃ d, l[i]? = some d := ⟨_, List.getElem?_eq_getElem (by rw [HL.out.1]; exact hil)⟩
      obtain ⟨rfl, htb⟩ := HL.out.2.2.1 (by omega)
      obtain ⟨hA, hF⟩ := (HL.out.later HB.out (fun _ => htb)).2.2.2 i d hd
      have hcap := HL.out.2.1
      obtain ⟨c0, c1, c2, c3, c4, c5, c6, c7, c8, c9, c10⟩ := hA
      have HD := Lib.hid hd
      clear hd hF
      go_wp2_with fail
      refine (over_any _ d).mono ?_
      rintro e w2 ⟨rfl, hb2⟩
      have HX2 := Lib.hid ((AtBd.made wr d 46).later hb2)
      have hbb := below_step (below_new (Below.refl _ _) (d.obj 46)) hb2
      have HB2 := Lib.hid (below_step HB.out hbb)
      have HR2 := Lib.hid ((Keep.of_below (T := fun _ => False) hbb).row HR.out (fun k _ h => h))
      obtain ⟨A, cp, hsh⟩ := own_shape HR.out
      have hol := Nat.le_trans (overs_le (l.take i)) (by rw [List.length_take]; exact Nat.min_le_left _ _)
      clear hb2 hbb c0 c1 c2 c3 c4 c5 c6 c7 c8 c9 c10 HB HR
      obtain ⟨g0, g1, g2, g3, g4, g5, g6, g7, g8, g9, g10⟩ := HX2.out
      have hhs : w.heap.size ≤ w2.heap.size := HB2.out.size
      rw [hsh] at HR2 ⊢
      clear hsh
      by_cases hov : 0 ≤ d.till
      case neg =>
        have e1 : decide (0 ≤ d.till) = false := decide_eq_false hov
        have HR3 : Hid (w2.ownsRow w.heap.size 46 11 (.slice A (overs (l.take i)).length cp) (overs (l.take (i + 1))).length (flatD (overs (l.take (i + 1))))) := by rw [overs_no HD.out hov]; exact HR2
        go_wp2_with fail
        go_roundw
        case rel => exact ⟨i + 1, by omega, by go_num, HB2, HR3⟩
        case measure => first | omega | (simp [intOf]; done) | (simp [intOf]; omega)
      case pos =>
        have e1 : decide (0 ≤ d.till) = true := decide_eq_true hov
        have HRA : Hid ((w2.alloc (d.obj 46)).ownsRow w.heap.size 46 11 (.slice A (overs (l.take i)).length cp) (overs (l.take i)).length (flatD (overs (l.take i)))) := Lib.hid ((Keep.of_below (T := fun _ => False) (below_new (Below.refl _ _) _)).row HR2.out (fun k _ h => h))
        go_wp2_with (at_builtin; refine list_append_grew rfl _ _ 26 rfl w.heap.size 46 _ 11 88 elem_dd (.slice A (overs (l.take i)).length cp) (overs (l.take i)).length (flatD (overs (l.take i))) rfl HRA.out (some ⟨_, 0, none⟩) 1 1 d.list rfl (src_bd w2 d) (by unfold maxLen; omega) (by omega) (by simp; omega) ?_; intro v' w4 hG)
        have HR4 : Hid (w4.ownsRow w.heap.size 46 11 v' (overs (l.take (i + 1))).length (flatD (overs (l.take (i + 1))))) := by
          rw [overs_yes HD.out hov, List.length_append, List.length_singleton, flatD_append]
          have h := hG.own
          exact Lib.hid (by simpa [flatD] using h)
        have HB4 : Hid (Below w.heap.size w w4) := Lib.hid (below_keep (below_new HB2.out _) (Keep.of_grown (T := fun k => w.heap.size ≤ k) hG.grown (fun k hk => (HRA.out.lt k hk).1)) (by simp; omega) (fun i hi => hi))
        clear hG
        go_wp2_with fail
        go_roundw
        case rel => exact ⟨i + 1, by omega, by go_num, HB4, HR4⟩
        case measure => first | omega | (simp [intOf]; done) | (simp [intOf]; omega)
    · obtain rfl : i = len := by omega
      have hnl : ¬ (i : Int) < (i : Int) := by omega
      have hR := HR.out
      rw [List.take_of_length_le (by rw [HL.out.1]; exact Nat.le_refl _)] at hR
      have HRR := Lib.hid hR
      clear hR HR
      go_wp2_with fail
      go_ret
      exact ⟨_, rfl, HRR.out, HB.out⟩
end Go.Proofs.YtkadjpllappalaaGreat
