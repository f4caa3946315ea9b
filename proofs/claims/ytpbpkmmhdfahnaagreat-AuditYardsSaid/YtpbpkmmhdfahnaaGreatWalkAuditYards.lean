/-
  AuditYards answers true for all lists of moves and all numbers, and leaves all memory that was there as it was. No condition.
-/
import Derived.Test.YtpbpkmmhdfahnaaGreatAuditRun
import Derived.Test.YtpbpkmmhdfahnaaGreatAuditHead
namespace Go.Proofs.YtpbpkmmhdfahnaaGreat
open Go.RowKit
set_option linter.unusedVariables false

set_option maxRecDepth 100000 in
set_option maxHeartbeats 8000000 in
theorem walk_AuditYards (a0 : Int) (a1 : Int) (a2 : Int) (a3 : Option Addr) (len3 cap3 : Nat) (w : World) (w0 : (Lit.int .i64 a0).wf = true) (w1 : (Lit.int .i64 a1).wf = true) (w2 : (Lit.int .i64 a2).wf = true) (w3 : IsRows w [.inl .i64, .inl .i64, .inr true, .inr true, .inl .u64, .inl .i64, .inl .i64] a3 len3 cap3) :
    Calls Tryz.prog 3 #[.int .i64 a0, .int .i64 a1, .int .i64 a2, .slice a3 len3 cap3] w fun e w' => e = .returned (.bool true) ∧ Below w.heap.size w w' := by
  clear w0 w1 w2
  rcases Nat.lt_or_ge 300 len3 with hbig | hs4
  · have hbig' : (300 : Int) < (len3 : Int) := by omega
    clear w3
    go_enter Tryz.func3, Tryz.ntmps3
    go_wp2_with fail
    refine (head17_any _).mono ?_
    rintro e w1 ⟨rfl, hb1⟩
    go_wp2_with fail
    go_ret
    exact ⟨rfl, hb1⟩
  have p4 : decide ((300 : Int) < (len3 : Int)) = false := decide_eq_false (by omega)
  obtain ⟨tb, off, X, hX⟩ := rows_mvs w3
  have HX0 : Hid (IsMvs w a3 len3 cap3 tb off X) := hX
  clear w3 hX
  go_enter Tryz.func3, Tryz.ntmps3
  go_wp2_with fail
  refine (head17_any _).mono ?_
  rintro e w1 ⟨rfl, hb1⟩
  have HX1 := Lib.hid (HX0.out.later hb1 (fun i hi => (HX0.out i hi).2.2.1))
  have HB1 := Lib.hid hb1
  clear hb1
  go_wp2_with fail
  refine (arun_any a0 a1 a2 a3 len3 cap3 tb off X _ HX1.out hs4).mono ?_
  rintro r w2 ⟨W, l, yb, ytb, p, c, T, s, so, d, N, Y, J, n, rfl, hbW, hY, hn, haok, hcok, hfit, hnum, hT, hN⟩
  have HBW := Lib.hid (below_step HB1.out hbW)
  have HY := Lib.hid hY
  have HLY : Hid (Lay T s N) := Lib.hid hY.cf.lay
  have HFI := Lib.hid hfit
  have HF : Hid (FirstIs T s so N Y.L (-1)) := Lib.hid (.inl ⟨rfl, haok.all⟩)
  have hnl : Y.L.length ≤ 1000 := by have := hY.ok.nL; have := hY.ok.most; omega
  clear hbW hY haok hcok hfit hnum HB1
  obtain ⟨v6, vd6, X6, hA6⟩ := HY.out.h
  have HA6 := Lib.hid hA6
  clear hA6
  go_wp2_with fail
  refine (yconf_any HA6.out).mono ?_
  rintro r w3 ⟨rfl, hb⟩
  have HY3 := Lib.hid (HY.out.later hb)
  clear hb HY HA6
  go_wp2_with fail
  refine (HY3.out.log (by omega)).mono ?_
  rintro r w4 ⟨v4, rfl, hrow, hb⟩
  obtain ⟨A4, cp4, rfl⟩ := own_shape hrow
  obtain ⟨g4, hev⟩ := own_evs hrow rfl HFI.out
  have HY4 := Lib.hid (HY3.out.later hb)
  have HE4 := Lib.hid hev
  clear hrow hb hev HY3
  go_wp2_with fail
  refine (afirst_any _ _ _ _ _ _ _ (-1) HLY.out HE4.out (by omega) HF.out).mono ?_
  rintro r w5 ⟨rfl, hb⟩
  have HY5 := Lib.hid (HY4.out.later hb)
  clear hb HE4 HY4
  obtain ⟨v5, vd5, X5, hA5⟩ := HY5.out.h
  have HA5 := Lib.hid hA5
  clear hA5
  go_wp2_with fail
  refine (yconf_any HA5.out).mono ?_
  rintro r w6 ⟨rfl, hb⟩
  have HY6 := Lib.hid (HY5.out.later hb)
  clear hb HY5 HA5
  go_wp2_with fail
  refine (HY6.out.log (by omega)).mono ?_
  rintro r w7 ⟨v7, rfl, hrow, hb⟩
  obtain ⟨A7, cp7, rfl⟩ := own_shape hrow
  obtain ⟨g7, hev⟩ := own_evs hrow rfl HFI.out
  have HY7 := Lib.hid (HY6.out.later hb)
  have HE7 := Lib.hid hev
  clear hrow hb hev HY6
  go_wp2_with fail
  refine (lfirst_any _ _ _ _ _ _ _ (-1) HLY.out HE7.out (by omega) HF.out).mono ?_
  rintro r w8 ⟨rfl, hb⟩
  have HY8 := Lib.hid (HY7.out.later hb)
  clear hb HE7 HY7
  go_wp2_with fail
  go_ret
  exact ⟨rfl, below_step HBW.out HY8.out.h.below⟩
end Go.Proofs.YtpbpkmmhdfahnaaGreat
