/-
  AuditRaw answers true for every layout and all events, and leaves all memory that was there as it was. No condition.
-/
import Derived.Test.YtpbpkmmhdfahnaaAuditHead
namespace Go.Proofs.Ytpbpkmmhdfahnaa
open Go.RowKit
set_option linter.unusedVariables false

set_option maxRecDepth 100000 in
set_option maxHeartbeats 4000000 in
theorem walk_AuditRaw (a0 : Int) (a1 : Int) (a2 : Int) (a3 : Option Addr) (len3 cap3 : Nat) (w : World) (w0 : (Lit.int .i64 a0).wf = true) (w1 : (Lit.int .i64 a1).wf = true) (w2 : (Lit.int .i64 a2).wf = true) (w3 : IsRows w [.inl .i64, .inl .i64, .inl .i64, .inl .u64, .inl .u64, .inr true] a3 len3 cap3) :
    Calls Try.prog 3 #[.int .i64 a0, .int .i64 a1, .int .i64 a2, .slice a3 len3 cap3] w fun e w' => e = .returned (.bool true) ∧ Below w.heap.size w w' := by
  obtain ⟨tb, off, L, hL⟩ := rows_evs w3
  have HL := Lib.hid hL
  clear w0 w1 w2 w3 hL
  go_enter Try.func3, Try.ntmps3
  go_wp2_with fail
  refine (head17_any _).mono ?_
  rintro r w1 ⟨rfl, hb⟩
  have HB1 := Lib.hid hb
  clear hb
  rcases Nat.lt_or_ge 60 len3 with hl | hl
  · have hl' : (60 : Int) < (len3 : Int) := by omega
    go_wp2_with fail
    go_ret
    exact ⟨rfl, HB1.out⟩
  have hl' : ¬ (60 : Int) < (len3 : Int) := by omega
  go_wp2_with fail
  refine (aconf_any _ _ _ _ _).mono ?_
  rintro r w2 ⟨t, s, so, d, N, rfl, hlay, so0, so1, d0, d1, hb⟩
  have HB2 := Lib.hid (below_step HB1.out hb)
  have HLY := Lib.hid hlay
  clear hb HB1 hlay
  have HO3 := Lib.hid (IsObj.made w2 [i64 t, i64 s, i64 so, i64 d] 26)
  have HB3 := Lib.hid (below_new HB2.out (.cells #[i64 t, i64 s, i64 so, i64 d] 26))
  obtain ⟨r0, hr0⟩ := FirstIs.exists t s so N L
  have HR := Lib.hid hr0
  clear hr0
  go_wp2_with fail
  generalize w2.alloc (.cells #[i64 t, i64 s, i64 so, i64 d] 26) = w3 at HO3 HB3 ⊢
  generalize w2.heap.size = cb at HO3 ⊢
  obtain ⟨q0, q1, q2, q3⟩ : _ ∧ _ ∧ _ ∧ _ := ⟨HO3.out.at' 0 _ rfl, HO3.out.at' 1 _ rfl, HO3.out.at' 2 _ rfl, HO3.out.at' 3 _ rfl⟩
  refine wp_region_seq ((0, true) :: (1, true) :: (3, true) :: (4, true) :: (2, false) :: (5, false) :: (6, true) :: (7, true) :: []) (by kernel_rfl) (by kernel_rfl) (by kernel_rfl) (by decide) (fun _ _ _ _ _ h => h) (fun hHeld => ?_)
  repeat (first
    | (refine seq_take (v := ?_) rfl ?_ ?_ ?_; rotate_left 1; rfl; (focus (intro wS hSw; have hk := below_rule hSw; go_simp; first | done | with_reducible rfl)); (try simp only [Act.put, List.setIfInBounds_toArray, List.set_cons_zero, List.set_cons_succ]))
    | (refine seq_skip rfl ?_ ?_; rfl; (try simp only [Act.put, List.setIfInBounds_toArray, List.set_cons_zero, List.set_cons_succ]))
    | (refine seq_run rfl (fun K hK => ?_); go_simp; (try (first | (go_at_call 7; refine (afirst_any _ _ len3 cap3 tb off L r0 HLY.out (HL.out.later (below_step HB3.out hHeld)) (by omega) HR.out).mono ?_; rintro e w' ⟨rfl, hb'⟩) | (go_at_call 8; refine (lfirst_any _ _ len3 cap3 tb off L r0 HLY.out (HL.out.later (below_step HB3.out hHeld)) (by omega) HR.out).mono ?_; rintro e w' ⟨rfl, hb'⟩))); (try go_wp2_with fail); refine hK.out _ _ ?_ ?_; (focus (first | exact below_step hHeld hb' | exact below_new hHeld _ | exact hHeld)); (try clear hb'); clear hHeld hK K; intro hHeld; (try simp only [Act.put, List.setIfInBounds_toArray, List.set_cons_zero, List.set_cons_succ])))
  first | refine seq_done ?_ | skip
  go_wp2_with fail
  go_ret
  exact ⟨rfl, below_step HB3.out hHeld⟩
end Go.Proofs.Ytpbpkmmhdfahnaa
