/-
  AuditCuts answers true for every layout and all events, and leaves all memory that was there as it was. No condition.
-/
import Derived.Test.YtpbpkmmhdfahnaaAuditHead
import Derived.Test.YtpbpkmmhdfahnaaEvOwn
namespace Go.Proofs.Ytpbpkmmhdfahnaa
open Go.RowKit
set_option linter.unusedVariables false

/-- What the first event that may not be of events says of more events. -/
theorem FirstIs.cut {t s so : Int} {N : Nat} {L M : List Ev} {i : Nat} (h : FirstIs t s so N L (i : Int)) : i < L.length ∧ FirstIs t s so N (L ++ M) (i : Int) ∧ FirstIs t s so N (L.take i) (-1) := by
  rcases h with ⟨h1, _⟩ | ⟨j, e, h1, h2, h3, h4⟩
  · omega
  · obtain rfl : i = j := by omega
    have hl := (List.getElem?_eq_some_iff.1 h2).1
    refine ⟨hl, .inr ⟨i, e, rfl, by rw [List.getElem?_append_left hl]; exact h2, ?_, ?_⟩, .inl ⟨rfl, h3⟩⟩
    · rw [List.take_append_of_le_length (by omega)]
      exact h3
    · rw [List.take_append_of_le_length (by omega)]
      exact h4
theorem FirstIs.more {t s so r : Int} {N : Nat} {L M : List Ev} (h : FirstIs t s so N L (-1)) (hr : FirstIs t s so N (L ++ M) r) : r = -1 ∨ ∃ k : Nat, r = (k : Int) ∧ L.length ≤ k ∧ k < L.length + M.length := by
  rcases hr with ⟨h1, _⟩ | ⟨j, e, h1, h2, h3, h4⟩
  · exact .inl h1
  · refine .inr ⟨j, h1, ?_, by have := (List.getElem?_eq_some_iff.1 h2).1; rwa [List.length_append] at this⟩
    rcases Nat.lt_or_ge j L.length with hq | hq
    · rcases h with ⟨_, ha⟩ | ⟨i, _, hi, _⟩
      · rw [List.getElem?_append_left hq] at h2
        rw [List.take_append_of_le_length (by omega)] at h4
        exact absurd (ha j e h2) h4
      · omega
    · exact hq
theorem FirstIs.cases {t s so r : Int} {N : Nat} {L : List Ev} (h : FirstIs t s so N L r) : r = -1 ∨ ∃ i : Nat, r = (i : Int) := by
  rcases h with ⟨h1, _⟩ | ⟨j, _, h1, _⟩
  · exact .inl h1
  · exact .inr ⟨j, h1⟩

set_option maxRecDepth 100000 in
set_option maxHeartbeats 4000000 in
theorem walk_AuditCuts (a0 : Int) (a1 : Int) (a2 : Int) (a3 : Option Addr) (len3 cap3 : Nat) (a4 : Option Addr) (len4 cap4 : Nat) (w : World) (w0 : (Lit.int .i64 a0).wf = true) (w1 : (Lit.int .i64 a1).wf = true) (w2 : (Lit.int .i64 a2).wf = true) (w3 : IsRows w [.inl .i64, .inl .i64, .inl .i64, .inl .u64, .inl .u64, .inr true] a3 len3 cap3) (w4 : IsRows w [.inl .i64, .inl .i64, .inl .i64, .inl .u64, .inl .u64, .inr true] a4 len4 cap4) :
    Calls Try.prog 4 #[.int .i64 a0, .int .i64 a1, .int .i64 a2, .slice a3 len3 cap3, .slice a4 len4 cap4] w fun e w' => e = .returned (.bool true) ∧ Below w.heap.size w w' := by
  obtain ⟨tb, off, L, hL⟩ := rows_evs w3
  obtain ⟨tb2, off2, M, hM⟩ := rows_evs w4
  have HL := Lib.hid hL
  have HM := Lib.hid hM
  have hcap := hL.2.1
  clear w0 w1 w2 w3 w4 hL hM
  go_enter Try.func4, Try.ntmps4
  go_wp2_with fail
  refine (head17_any _).mono ?_
  rintro r w1 ⟨rfl, hb⟩
  have HB1 := Lib.hid hb
  clear hb
  rcases Nat.lt_or_ge 60 len3 with hl | hl
  · have hl' : (60 : Int) < (len3 : Int) := by omega
    go_wp2_with fail
    go_ret
    exact ⟨rfl, HB1.out⟩
  have hl' : ¬ (60 : Int) < (len3 : Int) := by omega
  rcases Nat.lt_or_ge 60 len4 with hm | hm
  · have hm' : (60 : Int) < (len4 : Int) := by omega
    go_wp2_with fail
    go_ret
    exact ⟨rfl, HB1.out⟩
  have hm' : ¬ (60 : Int) < (len4 : Int) := by omega
  go_wp2_with fail
  refine (aconf_any _ _ _ _ _).mono ?_
  rintro r w2 ⟨t, s, so, d, N, rfl, hlay, so0, so1, d0, d1, hb⟩
  have HB2 := Lib.hid (below_step HB1.out hb)
  have HLY := Lib.hid hlay
  clear hb HB1 hlay
  have HO3 := Lib.hid (IsObj.made w2 [i64 t, i64 s, i64 so, i64 d] 26)
  have HB3 := Lib.hid (below_new HB2.out (.cells #[i64 t, i64 s, i64 so, i64 d] 26))
  obtain ⟨r0, hr0⟩ := FirstIs.exists t s so N L
  obtain ⟨r1, hr1⟩ := FirstIs.exists t s so N (L ++ M)
  have HR := Lib.hid hr0
  have HR1 := Lib.hid hr1
  clear hr0 hr1
  go_wp2_with fail
  generalize w2.alloc (.cells #[i64 t, i64 s, i64 so, i64 d] 26) = w3 at HO3 HB3 ⊢
  have hcb : w.heap.size ≤ w2.heap.size := HB2.out.size
  generalize w2.heap.size = cb at HO3 hcb ⊢
  refine (afirst_any _ _ len3 cap3 tb off L r0 HLY.out (HL.out.later HB3.out) (by omega) HR.out).mono ?_
  rintro r w4 ⟨rfl, hb⟩
  have HO4 := Lib.hid (HO3.out.later hb)
  have HB4 := Lib.hid (below_step HB3.out hb)
  clear hb HO3 HB3
  have hsz : w.heap.size ≤ w4.heap.size := HB4.out.size
  have hcl : cb < w4.heap.size := HO4.out.lt
  have hnl : L.length = len3 := HL.out.1
  have hml : M.length = len4 := HM.out.1
  have HNL := Lib.hid hnl
  have HML := Lib.hid hml
  clear hnl hml
  rcases HR.out.cases with rfl | ⟨i, rfl⟩
  · go_wp2_with (at_builtin; first
    | (refine list_append_grew rfl _ _ 22 rfl w4.heap.size 41 _ 6 48 elem_ev (.slice (some ⟨w4.heap.size, 0, none⟩) 0 0) 0 [] rfl (World.ownsRow_made w4 #[] 0 (Nat.le_refl _) (by unfold maxLen; omega) rfl) a3 len3 cap3 (flatE L) rfl (src_later (evs_src (HL.out.later HB4.out)) (below_new (Below.refl _ _) _)) (by unfold maxLen; omega) (by omega) (by simp) ?_; intro v1 w5 hG1; have hO1 := hG1.own; rw [Nat.zero_add, List.nil_append] at hO1; obtain ⟨A1, cap1, rfl⟩ := own_shape hO1; have hB5 : Below w4.heap.size w4 w5 := below_keep (T := fun k => k = w4.heap.size) (below_new (Below.refl _ _) (.cells #[] 41)) (Keep.of_grown hG1.grown (fun k hk => by cases hk; rfl)) (by simp) (fun i hi => by omega); have HO1 := Lib.hid hO1; have HB5 := Lib.hid hB5; clear hG1 hO1 hB5)
    | (refine list_append_grew rfl _ _ 22 rfl w4.heap.size 41 _ 6 48 elem_ev (.slice A1 len3 cap1) len3 (flatE L) rfl HO1.out a4 len4 cap4 (flatE M) rfl (evs_src (HM.out.later (below_step HB4.out HB5.out))) (by unfold maxLen; omega) (by omega) HB5.out.size ?_; intro v2 w6 hG2; have hO2 := hG2.own; rw [← flatE_append] at hO2; obtain ⟨A2, cap2, rfl⟩ := own_shape hO2; have hB6 : Below w4.heap.size w4 w6 := below_keep (T := fun k => w4.heap.size ≤ k) HB5.out (Keep.of_grown hG2.grown (fun k hk => (HO1.out.lt k hk).1)) HB5.out.size (fun i hi => hi); obtain ⟨tb6, hLM⟩ := own_evs hO2 (by rw [List.length_append, HL.out.1, HM.out.1]) (fun e he => (List.mem_append.1 he).elim (HL.out.fit e) (HM.out.fit e)); have HLM := Lib.hid hLM; have HB6 := Lib.hid (below_step HB4.out hB6); have HO6 := Lib.hid (HO4.out.later hB6); clear hG2 hO2 hB6 hLM; obtain ⟨q0, q1, q2, q3⟩ : _ ∧ _ ∧ _ ∧ _ := ⟨HO6.out.at' 0 _ rfl, HO6.out.at' 1 _ rfl, HO6.out.at' 2 _ rfl, HO6.out.at' 3 _ rfl⟩)
    | fail)
    refine (afirst_any _ A2 (len3 + len4) cap2 tb6 0 (L ++ M) r1 HLY.out HLM.out (by omega) HR1.out).mono ?_
    rintro r w7 ⟨rfl, hb⟩
    have HB7 := Lib.hid (below_step HB6.out hb)
    clear hb
    rcases HR.out.more HR1.out with rfl | ⟨k, rfl, hk1, hk2⟩
    · go_wp2_with fail
      go_ret
      exact ⟨rfl, HB7.out⟩
    · rw [HNL.out] at hk1 hk2
      rw [HML.out] at hk2
      have k0 : ((k : Int) == -1) = false := beq_false_of_ne (by omega)
      have k1 : (len3 : Int) ≤ (k : Int) := by omega
      have k2 : (k : Int) < (len3 : Int) + (len4 : Int) := by omega
      go_wp2_with fail
      go_ret
      exact ⟨rfl, HB7.out⟩
  · obtain ⟨c1, c2, c3⟩ := HR.out.cut (M := M)
    rw [HNL.out] at c1
    have HC2 := Lib.hid c2
    have HC3 := Lib.hid c3
    have i0 : (0 : Int) ≤ (i : Int) := by omega
    have i1 : (i : Int) < (len3 : Int) := by omega
    have i2 : (i : Int) ≤ (cap3 : Int) := by omega
    obtain ⟨rfl, htb⟩ := HL.out.2.2.1 (by omega)
    clear c2 c3 htb
    go_wp2_with (at_builtin; first
      | (refine list_append_grew rfl _ _ 22 rfl w4.heap.size 41 _ 6 48 elem_ev (.slice (some ⟨w4.heap.size, 0, none⟩) 0 0) 0 [] rfl (World.ownsRow_made w4 #[] 0 (Nat.le_refl _) (by unfold maxLen; omega) rfl) (some ⟨tb, off, none⟩) len3 cap3 (flatE L) rfl (src_later (evs_src (HL.out.later HB4.out)) (below_new (Below.refl _ _) _)) (by unfold maxLen; omega) (by omega) (by simp) ?_; intro v1 w5 hG1; have hO1 := hG1.own; rw [Nat.zero_add, List.nil_append] at hO1; obtain ⟨A1, cap1, rfl⟩ := own_shape hO1; have hB5 : Below w4.heap.size w4 w5 := below_keep (T := fun k => k = w4.heap.size) (below_new (Below.refl _ _) (.cells #[] 41)) (Keep.of_grown hG1.grown (fun k hk => by cases hk; rfl)) (by simp) (fun i hi => by omega); have HO1 := Lib.hid hO1; have HB5 := Lib.hid hB5; clear hG1 hO1 hB5)
      | (refine list_append_grew rfl _ _ 22 rfl w4.heap.size 41 _ 6 48 elem_ev (.slice A1 len3 cap1) len3 (flatE L) rfl HO1.out a4 len4 cap4 (flatE M) rfl (evs_src (HM.out.later (below_step HB4.out HB5.out))) (by unfold maxLen; omega) (by omega) HB5.out.size ?_; intro v2 w6 hG2; have hO2 := hG2.own; rw [← flatE_append] at hO2; obtain ⟨A2, cap2, rfl⟩ := own_shape hO2; have hB6 : Below w4.heap.size w4 w6 := below_keep (T := fun k => w4.heap.size ≤ k) HB5.out (Keep.of_grown hG2.grown (fun k hk => (HO1.out.lt k hk).1)) HB5.out.size (fun i hi => hi); obtain ⟨tb6, hLM⟩ := own_evs hO2 (by rw [List.length_append, HL.out.1, HM.out.1]) (fun e he => (List.mem_append.1 he).elim (HL.out.fit e) (HM.out.fit e)); have HLM := Lib.hid hLM; have HB6 := Lib.hid (below_step HB4.out hB6); have HO6 := Lib.hid (HO4.out.later hB6); clear hG2 hO2 hB6 hLM; obtain ⟨q0, q1, q2, q3⟩ : _ ∧ _ ∧ _ ∧ _ := ⟨HO6.out.at' 0 _ rfl, HO6.out.at' 1 _ rfl, HO6.out.at' 2 _ rfl, HO6.out.at' 3 _ rfl⟩)
      | fail)
    refine wp_region_seq ((0, true) :: (1, true) :: (2, true) :: (3, true) :: (4, true) :: (5, true) :: (6, true) :: (8, true) :: (7, false) :: (9, true) :: (10, true) :: (11, true) :: (12, true) :: (13, true) :: (14, true) :: (15, true) :: (16, false) :: (17, true) :: (18, true) :: (19, true) :: []) (by kernel_rfl) (by kernel_rfl) (by kernel_rfl) (by decide) (fun _ _ _ _ _ h => h) (fun hHeld => ?_)
    repeat (first
      | (refine seq_take (v := ?_) rfl ?_ ?_ ?_; rotate_left 1; rfl; (focus (intro wS hSw; have hk := below_rule hSw; go_simp; first | done | with_reducible rfl)); (try simp only [Act.put, List.setIfInBounds_toArray, List.set_cons_zero, List.set_cons_succ]))
      | (refine seq_skip rfl ?_ ?_; rfl; (try simp only [Act.put, List.setIfInBounds_toArray, List.set_cons_zero, List.set_cons_succ]))
      | (refine seq_run rfl (fun K hK => ?_); go_simp; (try (first | (go_at_call 7; (with_reducible refine (afirst_any _ A2 (len3 + len4) cap2 tb6 0 (L ++ M) i HLY.out (HLM.out.later hHeld) (by omega) HC2.out).mono ?_); rintro e w' ⟨rfl, hb'⟩) | (go_at_call 7; (with_reducible refine (afirst_any _ (some ⟨tb, off, none⟩) i cap3 tb off (L.take i) (-1) HLY.out ((HL.out.later (below_step HB6.out hHeld)).take (by omega)) (by omega) HC3.out).mono ?_); rintro e w' ⟨rfl, hb'⟩))); (try go_wp2_with fail); refine hK.out _ _ ?_ ?_; (focus (first | exact below_step hHeld hb' | exact below_new hHeld _ | exact hHeld)); (try clear hb'); clear hHeld hK K; intro hHeld; (try simp only [Act.put, List.setIfInBounds_toArray, List.set_cons_zero, List.set_cons_succ])))
    first | refine seq_done ?_ | skip
    go_wp2_with fail
    go_ret
    exact ⟨rfl, below_step HB6.out hHeld⟩
end Go.Proofs.Ytpbpkmmhdfahnaa
