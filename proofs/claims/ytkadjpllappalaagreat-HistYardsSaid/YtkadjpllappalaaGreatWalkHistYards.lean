/-
  HistYards answers true for all lists of moves and all numbers, and leaves all memory that was there as it was. No condition.
-/
import Derived.Test.YtkadjpllappalaaGreatYardLoop
import Derived.Test.YtkadjpllappalaaGreatHistYard
import Derived.Test.YtkadjpllappalaaGreatHistHead
import Derived.Test.YtkadjpllappalaaGreatHistOverCalls
import Derived.Test.YtkadjpllappalaaGreatHistRightCalls
import Derived.Test.YtkadjpllappalaaGreatLawRightCalls
namespace Go.Proofs.YtkadjpllappalaaGreat
open Go.RowKit
set_option linter.unusedVariables false

theorem cfld0 (t s so d : Int) (w : World) : (Instr.field 32 (cf t s so d) 0).run Tryz.prog w = .ok (i64 t) w := by
  simp [Instr.field, go_sem, asAgg]
attribute [local go_sem ↓] cfld0

theorem dOwn_some {l : List Dd} {w : Int} {k : Nat} : ∀ {i : Nat}, dOwn l w i = (k : Nat) → ∃ o, l[k]? = some o ∧ o.who = w ∧ k < i
  | 0, h => by
    rw [dOwn] at h
    omega
  | i + 1, h => by
    rw [dOwn] at h
    cases hd : l[i]? with
    | none =>
      rw [hd] at h
      obtain ⟨o, h1, h2, h3⟩ := dOwn_some (i := i) h
      exact ⟨o, h1, h2, by omega⟩
    | some d =>
      rw [hd] at h
      have h' : (if d.who = w then (i : Int) else dOwn l w i) = (k : Nat) := h
      by_cases e : d.who = w
      · rw [if_pos e] at h'
        obtain rfl : i = k := by omega
        exact ⟨d, hd, e, by omega⟩
      · rw [if_neg e] at h'
        obtain ⟨o, h1, h2, h3⟩ := dOwn_some (i := i) h'
        exact ⟨o, h1, h2, by omega⟩
theorem dMost_bound {l : List Dd} {M : Nat} (h : ∀ d ∈ l, dUnder l d ≤ M) : ∀ n, dMost l n ≤ M
  | 0 => Nat.zero_le _
  | n + 1 => by
    have ih := dMost_bound h n
    rw [dMost]
    refine Nat.max_le.2 ⟨ih, ?_⟩
    split
    · rename_i d hd
      exact h d (List.mem_of_getElem? hd)
    · exact Nat.zero_le _
theorem dMost_overs (l : List Dd) : dMost (overs l) (overs l).length ≤ dMost l l.length := by
  refine dMost_bound (fun d hd => ?_) _
  have hm : d ∈ l := (List.mem_filter.1 hd).1
  obtain ⟨i, hi⟩ := List.mem_iff_getElem?.1 hm
  exact Nat.le_trans ((List.filter_sublist (p := fun d => decide (0 ≤ d.till)) (l := l)).countP_le) (dMost_ge hi (List.getElem?_eq_some_iff.1 hi).1)
section
variable {pl : Nat → Pl} {t n : Nat} {Y : Yd}
theorem YOk.right (h : YOk pl t n Y) (hN : YNum Y) : DRight Y.ds Y.ds.length := fun i d _ hd => by
  obtain ⟨⟨w, hw, _⟩, f0, f1, f2⟩ := h.deed i d hd
  have ht : 0 ≤ d.till → d.fr < d.till := fun h0 => (f2 (by omega)).1
  refine ⟨hN.kind i d hd, ⟨f0, fun j p hj hp => (h.order j i p d (by omega) hp hd).1⟩, ht, fun k o hk ho => ⟨hN.from' i k d o hd ho, fun h0 => ⟨hN.till i k d o (by omega) hd ho h0, fun e => hN.from' k i o d ho hd e.symm⟩⟩, fun k o hk ho => ?_⟩
  obtain ⟨o', h1, h2, h3⟩ := dOwn_some hk
  rw [ho] at h1
  cases h1
  obtain ⟨q1, q2⟩ := (h.order k i o d h3 ho hd).2 h2
  have q3 := (h.deed k o ho).2.2.2 q1
  have q4 := (h.deed k o ho).2.1
  exact ⟨by omega, q2⟩
theorem YOk.fit (h : YOk pl t n Y) (ht : t ≤ 1000) (hn : n ≤ 1000000) {d : Dd} (hd : d ∈ Y.ds) : d.Fit := by
  obtain ⟨i, hi⟩ := List.mem_iff_getElem?.1 hd
  obtain ⟨⟨w, hw, hwt, _⟩, f0, f1, f2⟩ := h.deed i d hi
  have hm := h.most
  refine ⟨wf_i64 (by omega) (by omega), by omega, by omega, ?_, ?_⟩
  · by_cases e : d.till = -1
    · omega
    · have := (f2 e).1
      omega
  · by_cases e : d.till = -1
    · omega
    · have := (f2 e).2
      omega
end
theorem dds_own {w : World} {base cap : Nat} {A : Option Addr} {L : List Dd} (h : w.ownsRow base 46 11 (.slice A L.length cap) L.length (flatD L)) (hF : ∀ d ∈ L, d.Fit) : ∃ tb, IsDds w A L.length cap tb 0 L := by
  have hc := own_cap h
  rcases h.2 with ⟨hv, h0⟩ | ⟨g, cap', cur, hv, _, hh, _⟩
  · have hl : L = [] := List.eq_nil_of_length_eq_zero h0
    subst hl
    exact ⟨0, rfl, hc, fun hp => absurd hp (Nat.lt_irrefl _), fun i d hd => by cases hd⟩
  · cases hv
    refine ⟨g, rfl, hc, fun _ => ⟨rfl, (Array.getElem?_eq_some_iff.1 hh).1⟩, fun i d hd => ⟨?_, hF d (List.mem_of_getElem? hd)⟩⟩
    rw [Nat.zero_add]
    exact AtDd.row h hd

/-- What the law's own run leaves. -/
structure RunPost (w : World) (r : Ending) (w' : World) (W : World) (l : List Thing) (yb ytb p c T : Nat) (s so d : Int) (N : Nat) (Y : Yd) (J : Nat → Nat) (n : Nat) : Prop where
  ret : r = .returned (pt yb)
  below : Below w.heap.size w W
  yd : YdL W w' l ⟨yb, ytb, p, c, T, s, so, d, T⟩ N Y J n
  few : n ≤ 300
  num : YNum Y
  t4 : T ≤ 4

set_option maxRecDepth 100000 in
set_option maxHeartbeats 8000000 in
theorem yrun_any (a0 : Int) (a1 : Int) (a2 : Int) (a3 : Option Addr) (len3 cap3 tb off : Nat) (X : Nat → Mv) (w : World) (hX : IsMvs w a3 len3 cap3 tb off X) (hs : len3 ≤ 300) :
    Calls Tryz.prog 5 #[.int .i64 a0, .int .i64 a1, .int .i64 a2, .slice a3 len3 cap3] w fun r w' => ∃ W l yb ytb p c T s so d N Y J n, RunPost w r w' W l yb ytb p c T s so d N Y J n := by
  have HX0 := Lib.hid hX
  clear hX
  go_enter Tryz.func5, Tryz.ntmps5
  go_wp2_with fail
  refine (conf4_any _ _ _ _ _).mono ?_
  rintro e w2 ⟨t, s, so, d, rfl, t1, t4, s1, s4, o0, o4, d0, d3, hb2⟩
  have hB2 := Lib.hid hb2
  clear hb2
  obtain ⟨N, hNe, hlay, hN1, hN2⟩ := lay44 t1 t4 s1 s4
  clear hNe
  obtain ⟨T, rfl⟩ : ∃ T : Nat, t = T := ⟨t.toNat, by omega⟩
  go_wp2_with fail
  have hA := AtC.made w2 T s so d
  have hB3 := below_new (Below.refl w2.heap.size w2) (.cells #[.int .i64 T, .int .i64 s, .int .i64 so, .int .i64 d] 32)
  have hs3 : w2.heap.size < (w2.alloc (.cells #[.int .i64 T, .int .i64 s, .int .i64 so, .int .i64 d] 32)).heap.size := by simp
  have HA := Lib.hid hA
  have HB := Lib.hid (below_step hB2.out hB3)
  have Hs := Lib.hid hs3
  clear hA hB3 hs3 hB2
  generalize w2.alloc (.cells #[.int .i64 T, .int .i64 s, .int .i64 so, .int .i64 d] 32) = W at HA HB Hs ⊢
  generalize w2.heap.size = cb at HA Hs ⊢
  clear w2
  have HX : Hid (IsMvs W a3 len3 cap3 tb off X) := Lib.hid (HX0.out.later HB.out (fun i hi => (HX0.out i hi).2.2.1))
  clear HX0
  refine (ynew_yes (W := W) T s so d N (Below.refl _ _) hlay o0 o4 d0 (by omega)).mono ?_
  rintro r w3 ⟨yb, ytb, p, c, l0, rfl, hl4, hY, hb, hyb⟩
  have HD0 := Lib.hid (YdL.start hlay o0 o4 d0 (by omega) hY)
  have HN0 := Lib.hid (YNum.start (List.replicate (2 * N + 2 * T) 0) T)
  clear hY hb hyb hl4
  go_wp2_with fail
  go_loopw [27] (fun ix wr => ∃ (i : Nat) (l : List Thing) (Y : Yd) (J : Nat → Nat), i ≤ len3 ∧ ix = .int .i64 i ∧ Hid (YdL W wr l ⟨yb, ytb, p, c, T, s, so, d, T⟩ N Y J i) ∧ Hid (YNum Y)) (fun ix _ => len3 - (RowKit.intOf ix).toNat)
  case atStart => exact ⟨0, _, _, _, Nat.zero_le _, rfl, HD0, HN0⟩
  case round =>
    clear HD0 HN0
    obtain ⟨i, l, Y, J, hi3, rfl, HD, HN⟩ := hrel
    rcases Nat.lt_or_ge i len3 with hi | hi
    · have hi' : (i : Int) < (len3 : Int) := by omega
      obtain ⟨rfl, hcap, htb, hx, x0, x1⟩ := HX.out i hi
      have hW1 := HD.out.h.below
      have hx' := hx.later hW1 htb
      obtain ⟨e0, e1, e2, e3, e4, e5, e6⟩ := hx'
      clear hW1 hx
      obtain ⟨q0, q1, q2, q3⟩ := HA.out.later HD.out.h.below Hs.out
      have hcb : cb < wr.heap.size := Nat.lt_of_lt_of_le Hs.out HD.out.h.size
      have hbx := below_new (Below.refl wr.heap.size wr) (.cells (X i).list.toArray 53)
      have HD2 := Lib.hid (HD.out.later hbx)
      clear hbx
      go_wp2_with fail
      refine (HD2.out.do (by omega) (X i) x0 x1).mono ?_
      rintro r w4 ⟨rfl, l1, J1, Y1, hdo, hd, _⟩
      have HD1 := Lib.hid hd
      have HN1 := Lib.hid (HN.out.next HD.out.ok hdo.mv)
      clear hd hdo e0 e1 e2 e3 e4 e5 e6 q0 q1 q2 q3 hcb HD HD2 HN
      go_wp2_with fail
      go_roundw
      case rel => exact ⟨i + 1, l1, Y1, J1, by omega, by go_num, HD1, HN1⟩
      case measure => first | omega | (simp [RowKit.intOf]; done) | (simp [RowKit.intOf]; omega)
    · obtain rfl : i = len3 := by omega
      have hnn : ¬ (i : Int) < (i : Int) := by omega
      clear HX hi hi3
      go_wp2_with fail
      go_ret
      exact ⟨W, l, yb, ytb, p, c, T, s, so, d, N, Y, J, i, rfl, HB.out, HD.out, hs, HN.out, by omega⟩

set_option maxRecDepth 100000 in
set_option maxHeartbeats 8000000 in
theorem walk_HistYards (a0 : Int) (a1 : Int) (a2 : Int) (a3 : Option Addr) (len3 cap3 : Nat) (w : World) (w0 : (Lit.int .i64 a0).wf = true) (w1 : (Lit.int .i64 a1).wf = true) (w2 : (Lit.int .i64 a2).wf = true) (w3 : IsRows w [.inl .i64, .inl .i64, .inr true, .inr true, .inl .u64, .inl .i64, .inl .i64] a3 len3 cap3) :
    Calls Tryz.prog 3 #[.int .i64 a0, .int .i64 a1, .int .i64 a2, .slice a3 len3 cap3] w fun e w' => e = .returned (.bool true) ∧ Below w.heap.size w w' := by
  clear w0 w1 w2
  rcases Nat.lt_or_ge 300 len3 with hbig | hs4
  · have hbig' : (300 : Int) < (len3 : Int) := by omega
    clear w3
    go_enter Tryz.func3, Tryz.ntmps3
    go_wp2_with fail
    refine (head14_any _).mono ?_
    rintro e w1 ⟨rfl, hb1⟩
    go_wp2_with fail
    go_ret
    exact ⟨rfl, hb1⟩
  have p4 : decide ((300 : Int) < (len3 : Int)) = false := decide_eq_false (by omega)
  obtain ⟨tb, off, X, hX⟩ := rows_mvs w3
  have HX0 : Hid (IsMvs w a3 len3 cap3 tb off X) := hX
  clear w3 hX
  go_enter Tryz.func3, Tryz.ntmps3
  go_wp2_with fail
  refine (head14_any _).mono ?_
  rintro e w1 ⟨rfl, hb1⟩
  have HX1 := Lib.hid (HX0.out.later hb1 (fun i hi => (HX0.out i hi).2.2.1))
  have HB1 := Lib.hid hb1
  clear hb1
  go_wp2_with fail
  refine (yrun_any a0 a1 a2 a3 len3 cap3 tb off X _ HX1.out hs4).mono ?_
  rintro r w2 ⟨W, l, yb, ytb, p, c, T, s, so, d, N, Y, J, n, rfl, hbW, hY, hn, hnum, hT⟩
  have HBW := Lib.hid (below_step HB1.out hbW)
  have HY := Lib.hid hY
  have HR := Lib.hid (hY.ok.right hnum)
  have HF := Lib.hid (fun d hd => hY.ok.fit (d := d) (by show T ≤ 1000; omega) (by omega) hd)
  have HM := Lib.hid (hY.ok.most' Y.ds.length)
  have HMO := Lib.hid (dMost_overs Y.ds)
  have hdl : Y.ds.length ≤ 300 := by have := hY.ok.nds; have := hY.ok.most; omega
  clear hbW hY hnum
  go_wp2_with fail
  refine (HY.out.deeds (by omega)).mono ?_
  rintro r w3 ⟨v, rfl, hrow, hb3⟩
  obtain ⟨A, cp, rfl⟩ := own_shape hrow
  obtain ⟨g, hdd⟩ := dds_own hrow HF.out
  have HY3 := Lib.hid (HY.out.later hb3)
  have HL3 := Lib.hid hdd
  clear hrow hb3 hdd HY
  go_wp2_with fail
  refine (hright_any _ _ _ _ _ _ _ true HL3.out (by omega) ⟨fun _ => HR.out, fun _ => rfl⟩).mono ?_
  rintro r w4 ⟨rfl, hb⟩
  have HY4 := Lib.hid (HY3.out.later hb)
  have HL4 := Lib.hid (HL3.out.later hb (fun h => (HL3.out.2.2.1 h).2))
  clear hb HY3 HL3
  go_wp2_with fail
  refine (lright_any _ _ _ _ _ _ _ true HL4.out (by omega) ⟨fun _ => HR.out, fun _ => rfl⟩).mono ?_
  rintro r w5 ⟨rfl, hb⟩
  have HY5 := Lib.hid (HY4.out.later hb)
  have HL5 := Lib.hid (HL4.out.later hb (fun h => (HL4.out.2.2.1 h).2))
  clear hb HY4 HL4
  go_wp2_with fail
  refine (hmost_any _ _ _ _ _ _ _ HL5.out (by omega)).mono ?_
  rintro r w6 ⟨rfl, hb⟩
  have HY6 := Lib.hid (HY5.out.later hb)
  have HL6 := Lib.hid (HL5.out.later hb (fun h => (HL5.out.2.2.1 h).2))
  clear hb HY5 HL5
  obtain ⟨v6, vd6, X6, hA6⟩ := HY6.out.h
  have HA6 := Lib.hid hA6
  clear hA6
  go_wp2_with fail
  refine (yconf_any HA6.out).mono ?_
  rintro r w7 ⟨rfl, hb⟩
  have HY7 := Lib.hid (HY6.out.later hb)
  have HL7 := Lib.hid (HL6.out.later hb (fun h => (HL6.out.2.2.1 h).2))
  clear hb HY6 HL6 HA6
  have hm : dMost Y.ds Y.ds.length ≤ T := HM.out
  obtain ⟨M, hM⟩ : ∃ M, dMost Y.ds Y.ds.length = M := ⟨_, rfl⟩
  have HMM := Lib.hid hM
  rw [hM] at hm ⊢
  have q1 : (M : Int) ≤ (T : Int) := by omega
  clear hM hm
  go_wp2_with fail
  refine (overs_any _ _ _ _ _ _ _ HL7.out (by omega)).mono ?_
  rintro r w8 ⟨v8, rfl, hrow, hb⟩
  obtain ⟨A8, cp8, rfl⟩ := own_shape hrow
  obtain ⟨g8, hdd⟩ := dds_own hrow (fun d hd => HF.out d (List.mem_filter.1 hd).1)
  have hol := overs_le Y.ds
  have HY8 := Lib.hid (HY7.out.later hb)
  have HL8 := Lib.hid (HL7.out.later hb (fun h => (HL7.out.2.2.1 h).2))
  have HO8 := Lib.hid hdd
  clear hrow hb hdd HY7 HL7
  go_wp2_with fail
  refine (hmost_any _ _ _ _ _ _ _ HO8.out (by omega)).mono ?_
  rintro r w9 ⟨rfl, hb⟩
  have HY9 := Lib.hid (HY8.out.later hb)
  have HL9 := Lib.hid (HL8.out.later hb (fun h => (HL8.out.2.2.1 h).2))
  clear hb HY8 HL8 HO8
  have hmo := HMO.out
  rw [HMM.out] at hmo
  obtain ⟨M2, hM2⟩ : ∃ M2, dMost (overs Y.ds) (overs Y.ds).length = M2 := ⟨_, rfl⟩
  rw [hM2] at hmo ⊢
  clear hM2
  go_wp2_with fail
  refine (hmost_any _ _ _ _ _ _ _ HL9.out (by omega)).mono ?_
  rintro r w10 ⟨rfl, hb⟩
  have HY10 := Lib.hid (HY9.out.later hb)
  clear hb HY9 HL9
  rw [HMM.out]
  have q2 : (M2 : Int) ≤ (M : Int) := by omega
  clear hmo
  go_wp2_with fail
  go_ret
  exact ⟨rfl, below_step HBW.out HY10.out.h.below⟩
end Go.Proofs.YtkadjpllappalaaGreat
