/-
  LinDoes answers true for all rows and deeds, and leaves all memory that was there as it was. No condition.
-/
import Derived.Test.YtgoncakjkippkaaLinRows
namespace Go.Proofs.Ytgoncakjkippkaa
open Go.RowKit
set_option linter.unusedVariables false

theorem IsU.cell {w : World} {a : Option Addr} {R : List Int} (h : IsU w a R) {i : Nat} (hi : i < R.length) : ∃ g off, a = some ⟨g, off, none⟩ ∧ w.cell? ⟨g, off + i, none⟩ = some (u64 (R.getD i 0)) := by
  obtain ⟨g, off, h1, _, h3⟩ := h (by omega)
  exact ⟨g, off, h1, h3 i hi⟩

set_option maxRecDepth 100000 in
set_option maxHeartbeats 4000000 in
theorem does_law (a0 : Option Addr) (len0 cap0 : Nat) (R : List Int) (d : Dd) (w : World) (hlen : R.length = len0) (hcap : len0 ≤ cap0) (hU : IsU w a0 R) :
    Calls Try.prog 3 #[.slice a0 len0 cap0, d.val] w fun e w' => e = .returned (.bool true) ∧ Below w.heap.size w w' := by
  subst hlen
  have hbd := below_new (Below.refl w.heap.size w) (d.obj 33)
  have HBD := Lib.hid hbd
  have HU := Lib.hid (hU.later hbd)
  have HDB := Lib.hid (AtBd.made w d 33)
  clear hbd hU
  rcases Nat.lt_or_ge 60 R.length with hbig | hs
  · have hbig' : (60 : Int) < (R.length : Int) := by omega
    go_enter Try.func3, Try.ntmps3
    go_wp2_with fail
    refine (head15_any _).mono ?_
    rintro e w1 ⟨rfl, hb1⟩
    have HB1 := Lib.hid (below_step HBD.out hb1)
    clear hb1
    go_wp2_with fail
    go_ret
    exact ⟨rfl, HB1.out⟩
  have p0 : decide ((60 : Int) < (R.length : Int)) = false := decide_eq_false (by omega)
  go_enter Try.func3, Try.ntmps3
  go_wp2_with fail
  refine (head15_any _).mono ?_
  rintro e w1 ⟨rfl, hb1⟩
  have HB1 := Lib.hid (below_step HBD.out hb1)
  have HU1 := Lib.hid (HU.out.later hb1)
  have HD1 := Lib.hid (HDB.out.later hb1)
  clear hb1 HBD HU HDB
  obtain ⟨c0, c1, c2, c3, c4, c5, c6, c7, c8, c9, c10⟩ := HD1.out
  by_cases hco : cOk d
  case neg =>
    have e1 : decide (cOk d) = false := decide_eq_false hco
    clear hco
    go_wp2_with fail
    refine (tcright_any _ d).mono ?_
    rintro r w2 ⟨rfl, hb2⟩
    have HB2 := Lib.hid (below_step HB1.out hb2)
    clear hb2
    go_wp2_with fail
    go_ret
    exact ⟨rfl, HB2.out⟩
  have e1 : decide (cOk d) = true := decide_eq_true hco
  clear hco
  go_wp2_with fail
  refine (tcright_any _ d).mono ?_
  rintro r w2 ⟨rfl, hb2⟩
  have HB2 := Lib.hid (below_step HB1.out hb2)
  have HU2 := Lib.hid (HU1.out.later hb2)
  have HD2 := Lib.hid (HD1.out.later hb2)
  clear hb2 HB1 HU1 HD1 c0 c1 c2 c3 c4 c5 c6 c7 c8 c9 c10
  obtain ⟨c0, c1, c2, c3, c4, c5, c6, c7, c8, c9, c10⟩ := HD2.out
  go_wp2_with fail
  refine (do_any _ a0 cap0 R d HU2.out hcap (by omega)).mono ?_
  rintro r w3 hdo
  obtain ⟨hb3, a3, n3, k3, ok3, rfl, h31, h32⟩ := hdo.to
  have HB3 := Lib.hid (below_step HB2.out hb3)
  have HU3 := Lib.hid (HU2.out.later hb3)
  have HD3 := Lib.hid (HD2.out.later hb3)
  have H31 := Lib.hid h31
  have H32 := Lib.hid h32
  clear hb3 HB2 HU2 HD2 c0 c1 c2 c3 c4 c5 c6 c7 c8 c9 c10 h31 h32 hdo
  obtain ⟨c0, c1, c2, c3, c4, c5, c6, c7, c8, c9, c10⟩ := HD3.out
  go_wp2_with fail
  refine (ldo_any _ a0 cap0 R d HU3.out hcap (by omega)).mono ?_
  rintro r w4 ⟨hb4, a4, n4, k4, ok4, rfl, h41, h42⟩
  have HB4 := Lib.hid (below_step HB3.out hb4)
  cases hdo : dDo R d
  case none =>
    obtain rfl := H32.out hdo
    obtain rfl := h42 hdo
    clear hb4 c0 c1 c2 c3 c4 c5 c6 c7 c8 c9 c10 h41 h42 hdo
    go_wp2_with fail
    go_ret
    exact ⟨rfl, HB4.out⟩
  case some R' =>
    obtain ⟨rfl, rfl, hk3, hu3⟩ := H31.out R' hdo
    obtain ⟨rfl, rfl, hk4, hu4⟩ := h41 R' hdo
    have HU5 := Lib.hid (hu3.later hb4)
    have hl61 : R'.length ≤ 1000000 := by have := dDo_len hdo; omega
    have HU6 := Lib.hid hu4
    clear hb4 c0 c1 c2 c3 c4 c5 c6 c7 c8 c9 c10 h41 h42 hdo hu3 hu4 H31 H32 HU3 HD3
    go_wp2_with fail
    have HB0 := Lib.hid (Below.refl w4.heap.size w4)
    go_loopw [45] (fun iw wr => ∃ i : Nat, i ≤ R'.length ∧ iw = .int .i64 i ∧ Hid (Below w4.heap.size w4 wr)) (fun iw _ => R'.length - (RowKit.intOf iw).toNat)
    case atStart => exact ⟨0, Nat.zero_le _, rfl, HB0⟩
    case round =>
      clear HB0
      obtain ⟨i, hi, rfl, HB⟩ := hrel
      rcases Nat.lt_or_ge i R'.length with hil | hil
      · have hil' : (i : Int) < (R'.length : Int) := by omega
        obtain ⟨ga, oa, rfl, ca⟩ := (HU5.out.later HB.out).cell hil
        obtain ⟨gb, ob, rfl, cb⟩ := (HU6.out.later HB.out).cell hil
        generalize R'.getD i 0 = y at ca cb
        go_wp2_with fail
        refine wp_region_seq ((0, true) :: (1, true) :: (2, true) :: (3, true) :: (4, true) :: (5, true) :: (6, true) :: (7, true) :: (8, true) :: []) (by kernel_rfl) (by kernel_rfl) (by kernel_rfl) (by decide) (fun _ _ _ _ _ h => h) (fun hHeld => ?_)
        repeat (first
          | (refine seq_take (v := ?_) rfl ?_ ?_ ?_; rotate_left 1; rfl; (focus (intro wS hSw; have hk := below_rule hSw; go_simp; first | done | with_reducible rfl)); (try simp only [Act.put, List.setIfInBounds_toArray, List.set_cons_zero, List.set_cons_succ]))
          | (refine seq_skip rfl ?_ ?_; rfl; (try simp only [Act.put, List.setIfInBounds_toArray, List.set_cons_zero, List.set_cons_succ]))
          | (refine seq_run rfl (fun K hK => ?_); go_simp; (try skip); (try go_wp2_with fail); refine hK.out _ _ ?_ ?_; (focus (first | exact below_step hHeld hb' | exact below_new hHeld _ | exact hHeld)); (try clear hb'); clear hHeld hK K; intro hHeld; (try simp only [Act.put, List.setIfInBounds_toArray, List.set_cons_zero, List.set_cons_succ])))
        first | refine seq_done ?_ | skip
        have HX := Lib.hid (below_step HB.out hHeld)
        clear hHeld
        go_wp2_with fail
        go_roundw
        case rel => exact ⟨i + 1, by omega, by go_num, HX⟩
        case measure => first | omega | (simp [RowKit.intOf]; done) | (simp [RowKit.intOf]; omega)
      · obtain rfl : i = R'.length := by omega
        have hnl : ¬ (R'.length : Int) < (R'.length : Int) := by omega
        go_wp2_with fail
        go_ret
        exact ⟨rfl, below_step HB4.out HB.out⟩

theorem walk_LinDoes (a0 : Option Addr) (len0 cap0 : Nat) (a1_0 : Int) (a1_1 : Int) (a1_2 : Int) (a1_3 : Int) (a1_4 : Int) (a1_5 : Int) (a1_6 : Int) (a1_7 : Bool) (a1_8 : Int) (a1_9 : Int) (a1_10 : Int) (w : World) (w0 : IsRows w [.inl .u64] a0 len0 cap0) (w1_0 : (Lit.int .i64 a1_0).wf = true) (w1_1 : (Lit.int .i64 a1_1).wf = true) (w1_2 : (Lit.int .i64 a1_2).wf = true) (w1_3 : (Lit.int .u64 a1_3).wf = true) (w1_4 : (Lit.int .i64 a1_4).wf = true) (w1_5 : (Lit.int .i64 a1_5).wf = true) (w1_6 : (Lit.int .i64 a1_6).wf = true) (w1_8 : (Lit.int .u64 a1_8).wf = true) (w1_9 : (Lit.int .i64 a1_9).wf = true) (w1_10 : (Lit.int .i64 a1_10).wf = true) :
    Calls Try.prog 3 #[.slice a0 len0 cap0, .agg #[.int .i64 a1_0, .int .i64 a1_1, .int .i64 a1_2, .int .u64 a1_3, .int .i64 a1_4, .int .i64 a1_5, .int .i64 a1_6, .bool a1_7, .int .u64 a1_8, .int .i64 a1_9, .int .i64 a1_10]] w fun e w' => e = .returned (.bool true) ∧ Below w.heap.size w w' := by
  obtain ⟨R, h1, h2, h3, _⟩ := rows_isU w0
  exact does_law a0 len0 cap0 R ⟨a1_0, a1_1, a1_2, a1_3, a1_4, a1_5, a1_6, a1_7, a1_8, a1_9, a1_10⟩ w h1 h2 h3
end Go.Proofs.Ytgoncakjkippkaa
