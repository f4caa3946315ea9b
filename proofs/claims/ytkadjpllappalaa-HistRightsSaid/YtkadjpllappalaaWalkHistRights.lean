/-
  HistRights answers true for all lists of deeds, and leaves all memory that was there as it was. No condition.
-/
import Derived.Test.YtkadjpllappalaaHistHead
import Derived.Test.YtkadjpllappalaaHistOverCalls
import Derived.Test.YtkadjpllappalaaHistRightCalls
import Derived.Test.YtkadjpllappalaaLawRightCalls
namespace Go.Proofs.Ytkadjpllappalaa
open Go.RowKit
set_option linter.unusedVariables false

theorem overs_at {l : List Dd} {i : Nat} {d : Dd} (h : l[i]? = some d) (ho : 0 ≤ d.till) : (overs l)[(overs (l.take i)).length]? = some d := by
  have e : l = l.take i ++ (d :: l.drop (i + 1)) := by
    obtain ⟨hi, rfl⟩ := List.getElem?_eq_some_iff.1 h
    rw [← List.drop_eq_getElem_cons hi, List.take_append_drop]
  have e2 : overs l = overs (l.take i) ++ (d :: overs (l.drop (i + 1))) := by
    conv => lhs; rw [e]
    unfold overs
    rw [List.filter_append, List.filter_cons, if_pos (decide_eq_true ho)]
  rw [e2, List.getElem?_append_right (Nat.le_refl _), Nat.sub_self]
  rfl
theorem right_bool (l : List Dd) (n : Nat) : ∃ b : Bool, b = true ↔ DRight l n := by
  by_cases h : DRight l n
  · exact ⟨true, ⟨fun _ => h, fun _ => rfl⟩⟩
  · exact ⟨false, ⟨fun hh => Bool.noConfusion hh, fun hh => absurd hh h⟩⟩

set_option maxRecDepth 100000 in
set_option maxHeartbeats 4000000 in
theorem walk_HistRights (a0 : Option Addr) (len0 cap0 : Nat) (w : World) (w0 : IsRows w [.inl .i64, .inl .i64, .inl .i64, .inl .u64, .inl .i64, .inl .i64, .inl .i64, .inr true, .inl .u64, .inl .i64, .inl .i64] a0 len0 cap0) :
    Calls Try.prog 4 #[.slice a0 len0 cap0] w fun e w' => e = .returned (.bool true) ∧ Below w.heap.size w w' := by
  rcases Nat.lt_or_ge 60 len0 with hbig | hs
  · have hbig' : (60 : Int) < (len0 : Int) := by omega
    clear w0
    go_enter Try.func4, Try.ntmps4
    go_wp2_with fail
    refine (head14_any _).mono ?_
    rintro e w1 ⟨rfl, hb1⟩
    go_wp2_with fail
    go_ret
    exact ⟨rfl, hb1⟩
  have p0 : decide ((60 : Int) < (len0 : Int)) = false := decide_eq_false (by omega)
  obtain ⟨tb, off, l, hL⟩ := rows_dds w0
  have HL := Lib.hid hL
  clear w0 hL
  go_enter Try.func4, Try.ntmps4
  go_wp2_with fail
  refine (head14_any _).mono ?_
  rintro e w1 ⟨rfl, hb1⟩
  have HB1 := Lib.hid hb1
  have HL1 := Lib.hid (HL.out.later hb1 (fun h => (HL.out.2.2.1 h).2))
  clear hb1
  go_wp2_with fail
  refine (overs_any _ _ _ _ _ _ _ HL1.out (by omega)).mono ?_
  rintro e w2 ⟨v, rfl, hrow, hb2⟩
  obtain ⟨A, cp, rfl⟩ := own_shape hrow
  have hov := overs_le l
  rw [HL.out.1] at hov
  have hr0 := row_base hrow HB1.out.size
  obtain ⟨N, hN⟩ : ∃ N, (overs l).length = N := ⟨_, rfl⟩
  rw [hN] at hr0 hov ⊢
  have HR0 := Lib.hid hr0
  have HNN := Lib.hid hN
  clear hr0 hN
  have HB2 := Lib.hid (below_step HB1.out hb2)
  clear hrow hb2
  go_wp2_with fail
  go_loopw [4, 16] (fun kv iw wr => ∃ i : Nat, i ≤ len0 ∧ kv = .int .i64 (overs (l.take i)).length ∧ iw = .int .i64 i ∧ Hid (Below w.heap.size w wr) ∧ Hid (wr.ownsRow w.heap.size 32 11 (.slice A N cp) N (flatD (overs l)))) (fun _ iw _ => len0 - (intOf iw).toNat)
  case atStart => exact ⟨0, Nat.zero_le _, rfl, rfl, HB2, HR0⟩
  case round =>
    clear HB2 HR0
    obtain ⟨i, hi, rfl, rfl, HB, HR⟩ := hrel
    rcases Nat.lt_or_ge i len0 with hil | hil
    · have hil' : (i : Int) < (len0 : Int) := by omega
      obtain ⟨d, hd⟩ : ∃ d, l[i]? = some d := ⟨_, List.getElem?_eq_getElem (by rw [HL.out.1]; exact hil)⟩
      obtain ⟨rfl, htb⟩ := HL.out.2.2.1 (by omega)
      obtain ⟨hA, hF⟩ := (HL.out.later HB.out (fun _ => htb)).2.2.2 i d hd
      have hcap := HL.out.2.1
      obtain ⟨c0, c1, c2, c3, c4, c5, c6, c7, c8, c9, c10⟩ := hA
      have hki := Nat.le_trans (overs_le (l.take i)) (by rw [List.length_take]; exact Nat.min_le_left _ _)
      have hbn := below_new (Below.refl wr.heap.size wr) (d.obj 32)
      have HBN := Lib.hid (below_step HB.out hbn)
      have HRN := Lib.hid ((Keep.of_below (T := fun _ => False) hbn).row HR.out (fun k _ h => h))
      clear hbn hF
      by_cases ho : 0 ≤ d.till
      case neg =>
        have q1 : d.till < 0 := by omega
        have HE : Hid ((overs (l.take i)).length = (overs (l.take (i + 1))).length) := Lib.hid (by rw [overs_no hd ho])
        clear hd ho
        go_wp2_with fail
        go_roundw
        case rel => exact ⟨i + 1, by omega, congrArg (Value.int .i64) (by rw [HE.out]), by go_num, HBN, HRN⟩
        case measure => first | omega | (simp [intOf]; done) | (simp [intOf]; omega)
      case pos =>
        have q1 : ¬ d.till < 0 := by omega
        have hat := overs_at hd ho
        have HE : Hid ((overs (l.take i)).length + 1 = (overs (l.take (i + 1))).length) := Lib.hid (by rw [overs_yes hd ho, List.length_append, List.length_singleton])
        have hkl := (List.getElem?_eq_some_iff.1 hat).1
        rw [HNN.out] at hkl
        obtain ⟨g, cp', hv⟩ : ∃ g cp', (Value.slice A N cp) = .slice (some ⟨g, 0, none⟩) N cp' := by
          rcases HR.out.2 with ⟨_, h0⟩ | ⟨g, cp', cur, hv, _⟩
          · omega
          · exact ⟨g, cp', hv⟩
        cases hv
        obtain ⟨r0, r1, r2, r3, r4, r5, r6, r7, r8, r9, r10⟩ := AtDd.row (ds := overs l) (by rw [HNN.out]; exact HRN.out) hat
        have hcc : N ≤ cp := own_cap HR.out
        generalize hK : (overs (l.take i)).length = K at hki hkl HE r0 r1 r2 r3 r4 r5 r6 r7 r8 r9 r10 ⊢
        have hkl' : decide (N ≤ K) = false := decide_eq_false (by omega)
        clear hd ho hat hK
        go_wp2_with fail
        obtain ⟨g0, g1, g2, g3, g4, g5, g6, g7, g8, g9, g10⟩ := AtBd.made wr d 32
        clear c0 c1 c2 c3 c4 c5 c6 c7 c8 c9 c10
        generalize wr.alloc (d.obj 32) = W3 at HBN HRN g0 g1 g2 g3 g4 g5 g6 g7 g8 g9 g10 r0 r1 r2 r3 r4 r5 r6 r7 r8 r9 r10 ⊢
        generalize wr.heap.size = B at g0 g1 g2 g3 g4 g5 g6 g7 g8 g9 g10 ⊢
        refine wp_region_seq ((0, true) :: (1, true) :: (2, true) :: (3, true) :: (4, true) :: (5, true) :: (6, true) :: (7, true) :: (8, true) :: (9, true) :: (10, true) :: (11, true) :: []) (by kernel_rfl) (by kernel_rfl) (by kernel_rfl) (by decide) (fun _ _ _ _ _ h => h) (fun hHeld => ?_)
        repeat (first
          | (refine seq_take (v := ?_) rfl ?_ ?_ ?_; rotate_left 1; rfl; (focus (intro wS hSw; have hk := below_rule hSw; go_simp; first | done | with_reducible rfl)); (try simp only [Act.put, List.setIfInBounds_toArray, List.set_cons_zero, List.set_cons_succ]))
          | (refine seq_skip rfl ?_ ?_; rfl; (try simp only [Act.put, List.setIfInBounds_toArray, List.set_cons_zero, List.set_cons_succ]))
          | (refine seq_run rfl (fun K hK => ?_); go_simp; (try skip); (try go_wp2_with fail); refine hK.out _ _ ?_ ?_; (focus (first | exact below_step hHeld hb' | exact below_new hHeld _ | exact hHeld)); (try clear hb'); clear hHeld hK K; intro hHeld; (try simp only [Act.put, List.setIfInBounds_toArray, List.set_cons_zero, List.set_cons_succ])))
        first | refine seq_done ?_ | skip
        have HB4 := Lib.hid (below_step HBN.out hHeld)
        have HR4 := Lib.hid ((Keep.of_below (T := fun _ => False) hHeld).row HRN.out (fun k _ h => h))
        clear hHeld
        go_wp2_with fail
        go_roundw
        case rel => exact ⟨i + 1, by omega, congrArg (Value.int .i64) (by have := HE.out; omega), by go_num, HB4, HR4⟩
        case measure => first | omega | (simp [intOf]; done) | (simp [intOf]; omega)
    · obtain rfl : i = len0 := by omega
      have hnl : ¬ (i : Int) < (i : Int) := by omega
      have hov2 : overs (l.take i) = overs l := by rw [List.take_of_length_le (by rw [HL.out.1]; exact Nat.le_refl _)]
      have hLr : IsDds wr a0 i cap0 tb off l := HL.out.later HB.out (fun h => (HL.out.2.2.1 h).2)
      have HLR := Lib.hid hLr
      obtain ⟨b, hb⟩ := right_bool l i
      have HBB := Lib.hid hb
      rw [hov2, HNN.out]
      clear hLr hb hov2 HR
      go_wp2_with fail
      refine (right_any _ _ _ _ _ _ _ b HLR.out (by omega) HBB.out).mono ?_
      rintro e w3 ⟨rfl, hb3⟩
      have HL3 := Lib.hid (HLR.out.later hb3 (fun h => (HLR.out.2.2.1 h).2))
      have HB3 := Lib.hid (below_step HB.out hb3)
      clear hb3 HLR
      go_wp2_with fail
      refine (lright_any _ _ _ _ _ _ _ b HL3.out (by omega) HBB.out).mono ?_
      rintro e w4 ⟨rfl, hb4⟩
      have HB4 := Lib.hid (below_step HB3.out hb4)
      clear hb4 HL3 HBB
      cases b
      case true =>
        go_wp2_with fail
        go_ret
        exact ⟨rfl, HB4.out⟩
      case false =>
        go_wp2_with fail
        go_ret
        exact ⟨rfl, HB4.out⟩
end Go.Proofs.Ytkadjpllappalaa
