/-
  AuditFinds answers true for all lists of moves, all numbers and all turns, and leaves all memory that was there as it was. No condition.
-/
import Derived.Test.YtpbpkmmhdfahnaaGreatAuditRun
import Derived.Test.YtpbpkmmhdfahnaaGreatAuditHead
import Derived.Test.YtpbpkmmhdfahnaaGreatEvPut
import Derived.OpenShut
import Derived.Deep.DeepCutAuto
namespace Go.Proofs.YtpbpkmmhdfahnaaGreat
open Go.RowKit
set_option linter.unusedVariables false

set_option maxRecDepth 100000 in
set_option maxHeartbeats 8000000 in
theorem walk_AuditFinds (a0 : Int) (a1 : Int) (a2 : Int) (a3 : Option Addr) (len3 cap3 : Nat) (a4_0 : Int) (a4_1 : Int) (a4_2 : Int) (w : World) (w0 : (Lit.int .i64 a0).wf = true) (w1 : (Lit.int .i64 a1).wf = true) (w2 : (Lit.int .i64 a2).wf = true) (w3 : IsRows w [.inl .i64, .inl .i64, .inr true, .inr true, .inl .u64, .inl .i64, .inl .i64] a3 len3 cap3) (w4_0 : (Lit.int .i64 a4_0).wf = true) (w4_1 : (Lit.int .i64 a4_1).wf = true) (w4_2 : (Lit.int .i64 a4_2).wf = true) :
    Calls Tryz.prog 4 #[.int .i64 a0, .int .i64 a1, .int .i64 a2, .slice a3 len3 cap3, .agg #[.int .i64 a4_0, .int .i64 a4_1, .int .i64 a4_2]] w fun e w' => e = .returned (.bool true) ∧ Below w.heap.size w w' := by
  clear w0 w1 w2 w4_0 w4_1 w4_2
  rcases Nat.lt_or_ge 200 len3 with hbig | hs4
  · have hbig' : (200 : Int) < (len3 : Int) := by omega
    clear w3
    have hb0 := below_new (Below.refl w.heap.size w) (.cells #[i64 a4_0, i64 a4_1, i64 a4_2] 35)
    have HB0 := Lib.hid hb0
    clear hb0
    go_enter Tryz.func4, Tryz.ntmps4
    go_wp2_with fail
    refine (head17_any _).mono ?_
    rintro e w1 ⟨rfl, hb1⟩
    have HB1 := Lib.hid (below_step HB0.out hb1)
    clear hb1
    go_wp2_with fail
    go_ret
    exact ⟨rfl, HB1.out⟩
  have p4 : decide ((200 : Int) < (len3 : Int)) = false := decide_eq_false (by omega)
  obtain ⟨tb, off, X, hX⟩ := rows_mvs w3
  have HX0 : Hid (IsMvs w a3 len3 cap3 tb off X) := hX
  have hb0 := below_new (Below.refl w.heap.size w) (.cells #[i64 a4_0, i64 a4_1, i64 a4_2] 35)
  have HB0 := Lib.hid hb0
  have HS0 := Lib.hid (IsObj.made w [i64 a4_0, i64 a4_1, i64 a4_2] 35)
  clear w3 hX hb0
  go_enter Tryz.func4, Tryz.ntmps4
  go_wp2_with fail
  generalize w.alloc (.cells #[i64 a4_0, i64 a4_1, i64 a4_2] 35) = w0 at HB0 HS0 ⊢
  generalize hsb : w.heap.size = sb at HS0 ⊢
  have HSB := Lib.hid hsb
  clear hsb
  refine (head17_any _).mono ?_
  rintro e w1 ⟨rfl, hb1⟩
  have HB1 := Lib.hid (below_step HB0.out hb1)
  have HS1 := Lib.hid (HS0.out.later hb1)
  have HX1 := Lib.hid (HX0.out.later HB1.out (fun i hi => (HX0.out i hi).2.2.1))
  clear hb1 HB0 HS0
  go_wp2_with fail
  refine (arun_any a0 a1 a2 a3 len3 cap3 tb off X _ HX1.out (by omega)).mono ?_
  rintro r w2 ⟨W, l, yb, ytb, p, c, T, s, so, d, N, Y, J, n0, rfl, hbW, hY, hn, haok, hcok, hfit, hnum, hT, hN⟩
  have HBW := Lib.hid (below_step HB1.out hbW)
  have HS2 := Lib.hid ((HS1.out.later hbW).later hY.h.below)
  have HY := Lib.hid hY
  have HLY : Hid (Lay T s N) := Lib.hid hY.cf.lay
  have HFI := Lib.hid hfit
  have hnl0 : Y.L.length ≤ 1000 := by have := hY.ok.nL; have := hY.ok.most; omega
  clear hbW hY haok hcok hfit hnum HB1 HS1 HX1 HX0
  go_wp2_with fail
  refine (HY.out.log (by omega)).mono ?_
  rintro r w4 ⟨v4, rfl, hrow, hb⟩
  obtain ⟨A4, cp4, rfl⟩ := own_shape hrow
  obtain ⟨L, hLe⟩ : ∃ L, Y.L = L := ⟨_, rfl⟩
  rw [hLe] at hrow HFI hnl0 ⊢
  obtain ⟨n, hne⟩ : ∃ n, L.length = n := ⟨_, rfl⟩
  rw [hne] at hrow hnl0 ⊢
  obtain ⟨g, hev⟩ := own_evs hrow hne HFI.out
  have HE := Lib.hid hev
  have HO := Lib.hid hrow
  have HB4 := Lib.hid hb
  have HS4 := Lib.hid (HS2.out.later hb)
  have HN := Lib.hid hne
  have hnl : n ≤ 1000 := hnl0
  have HS2B : Hid (sb < w2.heap.size) := Lib.hid HS2.out.lt
  clear hrow hb hev hne HS2 hLe hnl0
  go_upto_if 31 with (fail)
  go_cut [12] (fun v wx => ∃ (A : Option Addr) (n cap tb off : Nat) (L : List Ev), v = .slice A n cap ∧ Hid (IsEvs wx A n cap tb off L) ∧ n ≤ 1000 ∧ Hid (Below w2.heap.size w2 wx))
  case first =>
    rcases Nat.eq_zero_or_pos n with hn0 | hn0
    · have hn0' : ¬ (0 : Int) < (n : Int) := by omega
      clear hn0
      go_wp2_with fail
      go_meet
      exact ⟨_, _, _, g, 0, L, rfl, HE, hnl, HB4⟩
    obtain ⟨rfl, htb⟩ := HE.out.2.2.1 hn0
    have hcap := HE.out.2.1
    obtain ⟨u, hu, u0, u1⟩ : ∃ u, bits .and .i64 a4_0 65535 = u ∧ 0 ≤ u ∧ u ≤ 65535 := ⟨_, and_ffff a4_0, by omega, by omega⟩
    obtain ⟨k, hk, hkn⟩ : ∃ k : Nat, u.tmod (n : Int) = (k : Int) ∧ k < n := by
      refine ⟨(u % n).toNat, ?_, ?_⟩
      · rw [Int.tmod_eq_emod_of_nonneg u0]
        have := Int.emod_nonneg u (show (n : Int) ≠ 0 by omega)
        omega
      · have := Int.emod_nonneg u (show (n : Int) ≠ 0 by omega)
        have := Int.emod_lt_of_pos u (show 0 < (n : Int) by omega)
        omega
    have h7 : ∀ x : Int, bits .and .i64 x 7 = x % 8 := fun x => by rw [show (7 : Int) = ((7 : Nat) : Int) from rfl, and_i64 x 7 3 rfl (by decide)]; rfl
    obtain ⟨b7, hb7, b70, b71⟩ : ∃ z, bits .and .i64 a4_2 7 = z ∧ 0 ≤ z ∧ z ≤ 7 := ⟨_, h7 _, by omega, by omega⟩
    obtain ⟨w7x, hw7, w70, w71⟩ : ∃ z, bits .and .i64 a4_1 7 = z ∧ 0 ≤ z ∧ z ≤ 7 := ⟨_, h7 _, by omega, by omega⟩
    obtain ⟨e, he⟩ : ∃ e, L[k]? = some e := ⟨_, List.getElem?_eq_getElem (by rw [HN.out]; exact hkn)⟩
    have hat := (HE.out.2.2.2 k e he).1
    have HFE := Lib.hid (HE.out.2.2.2 k e he).2
    rw [Nat.zero_add] at hat
    obtain ⟨c0, c1, c2, c3, c4, c5⟩ := hat
    obtain ⟨s0, s1, s2⟩ : _ ∧ _ ∧ _ := ⟨HS4.out.at' 0 _ rfl, HS4.out.at' 1 _ rfl, HS4.out.at' 2 _ rfl⟩
    obtain ⟨g', cap', hv⟩ := own_at HO.out hn0
    have hgg : g' = g ∧ cap' = cp4 := by
      cases hv
      exact ⟨rfl, rfl⟩
    obtain ⟨rfl, rfl⟩ := hgg
    clear hv
    have hfz := HO.out.frozenAt
    have f0 := hfz (k * 6)
    have f1 := hfz (k * 6 + 1)
    have f2 := hfz (k * 6 + 2)
    have f3 := hfz (k * 6 + 3)
    have f4 := hfz (k * 6 + 4)
    have f5 := hfz (k * 6 + 5)
    have hgb : w2.heap.size ≤ g' := (HO.out.lt g' rfl).1
    have hn0' : (0 : Int) < (n : Int) := by omega
    have hnz : ¬ (n : Int) = 0 := by omega
    have hkn' : (k : Int) < (n : Int) := by omega
    have hcz : ¬ cap' = 0 := by omega
    have HEk := Lib.hid he
    clear he h7 hfz htb
    rcases (by omega : w7x = 0 ∨ w7x = 1 ∨ w7x = 2 ∨ w7x = 3 ∨ w7x = 4 ∨ w7x = 5 ∨ (w7x = 6 ∨ w7x = 7)) with hq | hq | hq | hq | hq | hq | hq
    · subst hq
      have he := HEk.out
      have HNW := Lib.hid he
      clear he
      go_wp2_with fail
      go_meet
      exact ⟨_, _, _, g', 0, L.set k ⟨b7 - 1, e.op, e.cell, e.old, e.new, e.ok⟩, rfl, (HE.out.put (j := 0) (o := k * 6) (e' := ⟨b7 - 1, e.op, e.cell, e.old, e.new, e.ok⟩) HNW.out (by decide) rfl ⟨HFE.out.o0, HFE.out.o1, HFE.out.n0, HFE.out.n1, HFE.out.c⟩ (by omega)), hnl, below_set HB4.out hgb _⟩
    · subst hq
      have he := HEk.out
      have HNW := Lib.hid he
      clear he
      go_wp2_with fail
      go_meet
      exact ⟨_, _, _, g', 0, L.set k ⟨e.who, b7 - 1, e.cell, e.old, e.new, e.ok⟩, rfl, (HE.out.put (j := 1) (o := k * 6 + 1) (e' := ⟨e.who, b7 - 1, e.cell, e.old, e.new, e.ok⟩) HNW.out (by decide) rfl ⟨HFE.out.o0, HFE.out.o1, HFE.out.n0, HFE.out.n1, HFE.out.c⟩ (by omega)), hnl, below_set HB4.out hgb _⟩
    · subst hq
      have he := HEk.out
      have HNW := Lib.hid he
      clear he
      go_wp2_with fail
      go_meet
      exact ⟨_, _, _, g', 0, L.set k ⟨e.who, e.op, wrap64 (e.cell + (b7 - 3)), e.old, e.new, e.ok⟩, rfl, (HE.out.put (j := 2) (o := k * 6 + 2) (e' := ⟨e.who, e.op, wrap64 (e.cell + (b7 - 3)), e.old, e.new, e.ok⟩) HNW.out (by decide) rfl ⟨HFE.out.o0, HFE.out.o1, HFE.out.n0, HFE.out.n1, RowKit.wrap64_wf _⟩ (by omega)), hnl, below_set HB4.out hgb _⟩
    · subst hq
      have he := HEk.out
      have HNW := Lib.hid he
      clear he
      go_wp2_with fail
      go_meet
      exact ⟨_, _, _, g', 0, L.set k ⟨e.who, e.op, e.cell, bits .xor .u64 e.old b7, e.new, e.ok⟩, rfl, (HE.out.put (j := 3) (o := k * 6 + 3) (e' := ⟨e.who, e.op, e.cell, bits .xor .u64 e.old b7, e.new, e.ok⟩) HNW.out (by decide) rfl ⟨(bounds_u64 (wf_bits .xor .u64 e.old b7)).1, (bounds_u64 (wf_bits .xor .u64 e.old b7)).2, HFE.out.n0, HFE.out.n1, HFE.out.c⟩ (by omega)), hnl, below_set HB4.out hgb _⟩
    · subst hq
      have he := HEk.out
      have HNW := Lib.hid he
      clear he
      go_wp2_with fail
      go_meet
      exact ⟨_, _, _, g', 0, L.set k ⟨e.who, e.op, e.cell, e.old, bits .xor .u64 e.new b7, e.ok⟩, rfl, (HE.out.put (j := 4) (o := k * 6 + 4) (e' := ⟨e.who, e.op, e.cell, e.old, bits .xor .u64 e.new b7, e.ok⟩) HNW.out (by decide) rfl ⟨HFE.out.o0, HFE.out.o1, (bounds_u64 (wf_bits .xor .u64 e.new b7)).1, (bounds_u64 (wf_bits .xor .u64 e.new b7)).2, HFE.out.c⟩ (by omega)), hnl, below_set HB4.out hgb _⟩
    · subst hq
      have he := HEk.out
      have HNW := Lib.hid he
      clear he
      go_wp2_with fail
      go_meet
      exact ⟨_, _, _, g', 0, L.set k ⟨e.who, e.op, e.cell, e.old, e.new, (!e.ok)⟩, rfl, (HE.out.put (j := 5) (o := k * 6 + 5) (e' := ⟨e.who, e.op, e.cell, e.old, e.new, (!e.ok)⟩) HNW.out (by decide) rfl ⟨HFE.out.o0, HFE.out.o1, HFE.out.n0, HFE.out.n1, HFE.out.c⟩ (by omega)), hnl, below_set HB4.out hgb _⟩
    · have z0 : (w7x == 0) = false := beq_false_of_ne (by omega)
      have z1 : (w7x == 1) = false := beq_false_of_ne (by omega)
      have z2 : (w7x == 2) = false := beq_false_of_ne (by omega)
      have z3 : (w7x == 3) = false := beq_false_of_ne (by omega)
      have z4 : (w7x == 4) = false := beq_false_of_ne (by omega)
      have z5 : (w7x == 5) = false := beq_false_of_ne (by omega)
      clear hq
      have hnz2 : ¬ n = 0 := by omega
      have hkc : (k : Int) ≤ (cap' : Int) := by omega
      have hk1 : (k : Int) + 1 ≤ (n : Int) := by omega
      have hk01 : (0 : Int) ≤ (k : Int) + 1 := by omega
      have hkw : IntKind.i64.wrap ((k : Int) + 1) = (k : Int) + 1 := IntWalk.i64_in _ (by omega)
      obtain ⟨AS, hAS⟩ : ∃ AS : Option Addr, (if cap' = k + 1 then some { block := g', off := 0 } else some { block := g', off := (k + 1) * 6 }) = AS := ⟨_, rfl⟩
      have HSRC : Hid (Src w4 6 AS (n - (k + 1)) (flatE (L.drop (k + 1)))) := Lib.hid (by
        rw [← hAS]
        split
        · rename_i hq
          have hd : L.drop (k + 1) = [] := List.drop_eq_nil_of_le (by rw [HN.out]; omega)
          rw [hd, show n - (k + 1) = 0 by omega]
          exact ⟨fun _ => rfl, rfl, fun ad _ j u hj => by simp [flatE] at hj, fun u hu => by simp [flatE] at hu⟩
        · exact evs_drop HE.out (by omega) (by omega))
      have HOT := Lib.hid (own_take HO.out HN.out (Nat.le_of_lt hkn))
      go_wp2_with fail
      refine wp_region_seqS ((fun w' => w'.cell? ⟨sb, 0, none⟩ = some (i64 a4_0))) ((0, true) :: (1, true) :: (2, true) :: (3, true) :: (4, true) :: (5, true) :: (6, true) :: (7, true) :: (8, true) :: (9, true) :: (10, true) :: (11, true) :: (12, true) :: (13, true) :: (14, true) :: (15, true) :: (16, true) :: (17, false) :: (18, true) :: []) (by kernel_rfl) (by kernel_rfl) (by kernel_rfl) (by decide) (fun _ _ _ _ _ h => h) (s0) ?_
      repeat (first | (refine seq_take (v := ?_) rfl ?_ ?_ ?_; rotate_left 1; rfl; (focus (intro wS hSw; obtain x1 := hSw; go_simp; first | done | with_reducible rfl)); (try simp only [Act.put, List.setIfInBounds_toArray, List.set_cons_zero, List.set_cons_succ])) | (refine seq_skip rfl ?_ ?_; rfl; (try simp only [Act.put, List.setIfInBounds_toArray, List.set_cons_zero, List.set_cons_succ])))
      refine seq_run rfl (fun K hK => ?_)
      refine step_append_grew rfl _ _ 31 rfl w2.heap.size 40 _ 6 48 elem_ev (.slice (some ⟨g', 0, none⟩) k cap') k (flatE (L.take k)) rfl HOT.out AS (n - (k + 1)) (cap' - (k + 1)) (flatE (L.drop (k + 1))) rfl (src_later HSRC.out (Below.refl _ _).drew) (by unfold maxLen; omega) (by omega) HB4.out.size (fun v w5 hG => ?_)
      have hO5 := hG.own
      rw [← flatE_append] at hO5
      obtain ⟨A5, cap5, rfl⟩ := own_shape hO5
      have hlen : (L.take k ++ L.drop (k + 1)).length = k + (n - (k + 1)) := by rw [List.length_append, List.length_take, List.length_drop, HN.out, Nat.min_eq_left (by omega)]
      obtain ⟨g5, hE5⟩ := own_evs hO5 hlen (fun x hx => (List.mem_append.1 hx).elim (fun h => HE.out.fit x (List.mem_of_mem_take h)) (fun h => HE.out.fit x (List.mem_of_mem_drop h)))
      have hK5 : Keep (fun q => q = g') w4 w5 := (Keep.refl _ w4).drew.trans (Keep.of_grown hG.grown (fun q hq => (Option.some.inj hq).symm))
      have HE5 := Lib.hid hE5
      have HB5 : Hid (Below w2.heap.size w2 w5) := Lib.hid (below_keep HB4.out hK5 HB4.out.size (fun q hq => by omega))
      have hs5 : w5.cell? ⟨sb, 0, none⟩ = some (i64 a4_0) := hK5.cell s0 (by
        show ¬ sb = g'
        intro hq
        have := HS2B.out
        omega)
      clear hG hO5 hlen hE5 hK5
      refine hK.out _ _ hs5 (fun _ => ?_)
      (try simp only [Act.put, List.setIfInBounds_toArray, List.set_cons_zero, List.set_cons_succ])
      clear hK K
      repeat (first | (refine seq_take (v := ?_) rfl ?_ ?_ ?_; rotate_left 1; rfl; (focus (intro wS hSw; obtain x1 := hSw; go_simp; first | done | with_reducible rfl)); (try simp only [Act.put, List.setIfInBounds_toArray, List.set_cons_zero, List.set_cons_succ])) | (refine seq_skip rfl ?_ ?_; rfl; (try simp only [Act.put, List.setIfInBounds_toArray, List.set_cons_zero, List.set_cons_succ])))
      refine seq_done ?_
      go_wp2_with fail
      go_meet
      exact ⟨_, _, _, g5, 0, _, rfl, HE5, by omega, HB5⟩
  case rest =>
    obtain ⟨A, n, cap, tb, off, L', rfl, HE, hnl, HB⟩ := hcut
    obtain ⟨r0, hr0⟩ := FirstIs.exists T s so N L'
    have HR := Lib.hid hr0
    clear hr0
    have HY3 := Lib.hid (HY.out.later HB.out)
    clear HY
    obtain ⟨v6, vd6, X6, hA6⟩ := HY3.out.h
    have HA6 := Lib.hid hA6
    clear hA6
    go_wp2_with fail
    refine (yconf_any HA6.out).mono ?_
    rintro r w5 ⟨rfl, hb⟩
    have HY5 := Lib.hid (HY3.out.later hb)
    have HE5 := Lib.hid (HE.out.later hb)
    clear hb HY3 HA6 HE
    go_wp2_with fail
    refine (afirst_any _ _ _ _ _ _ _ r0 HLY.out HE5.out (by omega) HR.out).mono ?_
    rintro r w6 ⟨rfl, hb⟩
    have HY6 := Lib.hid (HY5.out.later hb)
    have HE6 := Lib.hid (HE5.out.later hb)
    clear hb HY5 HE5
    obtain ⟨v7, vd7, X7, hA7⟩ := HY6.out.h
    have HA7 := Lib.hid hA7
    clear hA7
    go_wp2_with fail
    refine (yconf_any HA7.out).mono ?_
    rintro r w7 ⟨rfl, hb⟩
    have HY7 := Lib.hid (HY6.out.later hb)
    have HE7 := Lib.hid (HE6.out.later hb)
    clear hb HY6 HA7 HE6
    go_wp2_with fail
    refine (lfirst_any _ _ _ _ _ _ _ r0 HLY.out HE7.out (by omega) HR.out).mono ?_
    rintro r w8 ⟨rfl, hb⟩
    have HY8 := Lib.hid (HY7.out.later hb)
    clear hb HE7 HY7
    go_wp2_with fail
    go_ret
    exact ⟨rfl, by have h := below_step HBW.out HY8.out.h.below; exact h⟩
end Go.Proofs.YtpbpkmmhdfahnaaGreat
