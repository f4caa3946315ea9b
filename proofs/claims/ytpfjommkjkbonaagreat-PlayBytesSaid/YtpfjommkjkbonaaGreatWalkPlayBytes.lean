/-
  PlayBytes answers true for all bytes, and leaves all memory that was there as it was. No condition.
-/
import Derived.Test.YtpfjommkjkbonaaGreatPlayBytes
namespace Go.Proofs.YtpfjommkjkbonaaGreat
open Go.RowKit
set_option linter.unusedVariables false

/-- What no script is is refused by the same error. -/
theorem DecPost.err {w1 w2 : World} {b1 b2 : Nat} {l : List Int} {v v' : Value} {n n' e e' : Int} (h : DecPost w1 b1 l v n e) (h' : DecPost w2 b2 l v' n' e') (hs : l.length ≤ 300) (he : e ≠ 0) (he' : e' ≠ 0) : e' = e := by
  have hmany : ∀ {r : List Int} {n e : Int}, r.length ≤ 300 → DecIs r [] n e → e ≠ 0 → e = 3 := fun {r n e} hr hd he => by
    cases hd with
    | ok ms _ _ _ => exact absurd rfl he
    | form => rfl
    | many ms m q h1 h2 h3 h4 =>
      have h5 := encs_len ms
      have h6 := congrArg List.length h3
      rw [List.length_append] at h6
      omega
  cases h with
  | short h =>
    cases h' with
    | short => rfl
    | conf t s so d r h2 => rw [h2] at h; simp at h; omega
    | bad t s so d r n2 e2 h2 => rw [h2] at h; simp at h; omega
    | ok => exact absurd rfl he'
  | conf t s so d r h hr =>
    cases h' with
    | short h2 => rw [h] at h2; simp at h2; omega
    | conf => rfl
    | bad t2 s2 so2 d2 r2 n2 e2 h2 hr2 =>
      rw [h] at h2
      simp only [List.cons.injEq] at h2
      obtain ⟨rfl, rfl, rfl, rfl, rfl⟩ := h2
      rw [hr] at hr2
      cases hr2
    | ok => exact absurd rfl he'
  | bad t s so d r n1 e1 h hr hd =>
    have hl : r.length ≤ 300 := by rw [h] at hs; simp at hs; omega
    cases h' with
    | short h2 => rw [h] at h2; simp at h2; omega
    | conf t2 s2 so2 d2 r2 h2 hr2 =>
      rw [h] at h2
      simp only [List.cons.injEq] at h2
      obtain ⟨rfl, rfl, rfl, rfl, rfl⟩ := h2
      rw [hr] at hr2
      cases hr2
    | bad t2 s2 so2 d2 r2 n2 e2 h2 hr2 hd2 =>
      rw [h] at h2
      simp only [List.cons.injEq] at h2
      obtain ⟨rfl, rfl, rfl, rfl, rfl⟩ := h2
      rw [hmany hl hd he, hmany hl hd2 he']
    | ok => exact absurd rfl he'
  | ok => exact absurd rfl he

set_option maxRecDepth 100000 in
set_option maxHeartbeats 8000000 in
theorem walk_PlayBytes (a0 : Option Addr) (len0 cap0 : Nat) (w : World) (w0 : IsRows w [.inl .u8] a0 len0 cap0) :
    Calls Tryz.prog 4 #[.slice a0 len0 cap0] w fun e w' => e = .returned (.bool true) ∧ Below w.heap.size w w' := by
  obtain ⟨l, rfl, hc, hl⟩ := rows_bytes w0
  have HR := Lib.hid hl
  clear w0 hl
  rcases Nat.lt_or_ge 300 l.length with hbig | hs
  · have hbig' : (300 : Int) < (l.length : Int) := by omega
    go_enter Tryz.func4, Tryz.ntmps4
    go_wp2_with fail
    refine (head19_any _).mono ?_
    rintro e w1 ⟨rfl, hb1⟩
    go_wp2_with fail
    go_ret
    exact ⟨rfl, hb1⟩
  have hs' : ¬ (300 : Int) < (l.length : Int) := by omega
  go_enter Tryz.func4, Tryz.ntmps4
  go_wp2_with fail
  refine (head19_any _).mono ?_
  rintro e w1 ⟨rfl, hb1⟩
  have HB1 := Lib.hid hb1
  have HR1 := Lib.hid (HR.out.later hb1)
  clear hb1 HR
  go_wp2_with fail
  refine (decode_any a0 l cap0 _ HR1.out.at' HR1.out.byt hc (by omega)).mono ?_
  rintro r w2 ⟨v, n, e, rfl, hb2, hD⟩
  have HB2 := Lib.hid (below_step HB1.out hb2)
  have HR2 := Lib.hid (HR1.out.later hb2)
  have HD := Lib.hid hD
  have HS := Lib.hid hs
  have HC := Lib.hid hc
  clear hb2 HB1 HR1 hs hc
  by_cases he : e = 0
  · cases hD with
    | short h => exact absurd he (by decide)
    | conf t s so d r h hr => exact absurd he (by decide)
    | bad t s so d r n1 e1 h hr hd he1 => exact absurd he he1
    | ok t s so d r ms A1 cp h hr hd ho =>
      obtain ⟨hg, hm, rfl⟩ := hd.yes rfl
      have HG := Lib.hid hg
      have HM := Lib.hid hm
      have HH := Lib.hid h
      have HRR := Lib.hid hr
      have HBS := Lib.hid (below_new (Below.refl w2.heap.size w2) (.cells #[.int .i64 t, .int .i64 s, .int .i64 so, .int .i64 d, .slice A1 ms.length cp] 29))
      have HOB := Lib.hid (IsObj.made w2 [.int .i64 t, .int .i64 s, .int .i64 so, .int .i64 d, .slice A1 ms.length cp] 29)
      have HR3 := Lib.hid (HR2.out.later HBS.out)
      clear hg hm hd ho he h hr
      go_wp2_with fail
      generalize w2.alloc (.cells #[.int .i64 t, .int .i64 s, .int .i64 so, .int .i64 d, .slice A1 ms.length cp] 29) = w3 at HBS HOB HR3 ⊢
      have HB3 := Lib.hid (below_step HB2.out HBS.out)
      refine (pbytes_any a0 l cap0 w3 HR3.out.at' HR3.out.byt HC.out (by have := HS.out; omega)).mono ?_
      rintro r w4 (⟨w5, v', n', e', hD', he', rfl, hb⟩ | ⟨T, s', so', d', N, ms', W, lx, yb, ytb, p, c, Yf, An, J, g, hP⟩)
      · exact absurd (hD'.yes HH.out HRR.out HG.out HM.out).1 he'
      · obtain ⟨h1, h2, h3, h4, h5, rfl, h7, h8⟩ := hP
        have e1 := HH.out.symm.trans h1
        simp only [List.cons.injEq] at e1
        obtain ⟨rfl, rfl, rfl, rfl, e6⟩ := e1
        obtain rfl := encs_inj HG.out h2 e6
        have HP := Lib.hid h8
        have HB4 := Lib.hid (below_step HB3.out h7)
        have HO4 := Lib.hid ((HOB.out.later h7).later h8.yd.h.below)
        clear h1 h2 h3 h4 h5 h7 h8 e6 HB3 HOB HR3
        go_wp2_with fail
        generalize w2.heap.size = sb at HO4 ⊢
        have HD := Lib.hid (HP.out.yd.later (Below.refl _ _).drew)
        have HO5 := Lib.hid (HO4.out.later (Below.refl _ _).drew)
        clear HP HO4
        refine wp_region_seqS ((fun w' => AtC w' sb T s so d ∧ w'.cell? ⟨sb, 4, none⟩ = some (.slice A1 ms.length cp))) ((0, true) :: (1, true) :: (2, true) :: (3, true) :: (4, true) :: (5, true) :: (6, true) :: (7, true) :: (8, true) :: (9, true) :: (10, true) :: (11, true) :: (12, true) :: (13, true) :: (14, true) :: (15, true) :: (17, true) :: (18, true) :: (16, false) :: (19, true) :: (20, true) :: (21, true) :: []) (by kernel_rfl) (by kernel_rfl) (by kernel_rfl) (by decide) (fun _ _ _ _ _ h => h) (⟨⟨HO5.out.at' 0 _ rfl, HO5.out.at' 1 _ rfl, HO5.out.at' 2 _ rfl, HO5.out.at' 3 _ rfl⟩, HO5.out.at' 4 _ rfl⟩) ?_
        repeat (first | (refine seq_take (v := ?_) rfl ?_ ?_ ?_; rotate_left 1; rfl; (focus (intro wS hSw; obtain ⟨⟨q0, q1, q2, q3⟩, q4⟩ := hSw; go_simp; first | done | with_reducible rfl)); (try simp only [Act.put, List.setIfInBounds_toArray, List.set_cons_zero, List.set_cons_succ])) | (refine seq_skip rfl ?_ ?_; rfl; (try simp only [Act.put, List.setIfInBounds_toArray, List.set_cons_zero, List.set_cons_succ])))
        refine seq_run rfl (fun K hK => ?_)
        go_simp
        obtain ⟨v0, vd, X, hA⟩ := HD.out.h
        refine (yconf_any hA).mono ?_
        rintro r6 w6 ⟨rfl, hb6⟩
        (try go_wp2_with fail)
        have HO6 := Lib.hid (HO5.out.later hb6)
        have HB6 := Lib.hid (below_step HB4.out (HD.out.later hb6).h.below)
        clear hA hb6
        refine hK.out _ _ (⟨⟨HO6.out.at' 0 _ rfl, HO6.out.at' 1 _ rfl, HO6.out.at' 2 _ rfl, HO6.out.at' 3 _ rfl⟩, HO6.out.at' 4 _ rfl⟩) (fun _ => ?_)
        (try simp only [Act.put, List.setIfInBounds_toArray, List.set_cons_zero, List.set_cons_succ])
        clear hK K
        (try unfold cf)
        repeat (first | (refine seq_take (v := ?_) rfl ?_ ?_ ?_; rotate_left 1; rfl; (focus (intro wS hSw; obtain ⟨⟨q0, q1, q2, q3⟩, q4⟩ := hSw; go_simp; first | done | with_reducible rfl)); (try simp only [Act.put, List.setIfInBounds_toArray, List.set_cons_zero, List.set_cons_succ])) | (refine seq_skip rfl ?_ ?_; rfl; (try simp only [Act.put, List.setIfInBounds_toArray, List.set_cons_zero, List.set_cons_succ])))
        refine seq_done ?_
        go_wp2_with fail
        go_ret
        exact ⟨rfl, HB6.out⟩
  · have e0 : (e == 0) = false := beq_false_of_ne he
    have HE := Lib.hid he
    obtain ⟨t, s, so, d, A1, cp, hv⟩ : ∃ (t s so d : Int) (A1 : Option Addr) (cp : Nat × Nat), v = scV t s so d (.slice A1 cp.1 cp.2) := by
      cases hD with
      | short h => exact ⟨_, _, _, _, _, (0, 0), rfl⟩
      | conf t s so d r h hr => exact ⟨_, _, _, _, _, (0, 0), rfl⟩
      | bad t s so d r n1 e1 h hr hd he1 => exact ⟨_, _, _, _, _, (0, 0), rfl⟩
      | ok t s so d r ms A1 cp h hr hd ho => exact absurd rfl he
    have HBS := Lib.hid (below_new (Below.refl w2.heap.size w2) (.cells #[.int .i64 t, .int .i64 s, .int .i64 so, .int .i64 d, .slice A1 cp.1 cp.2] 29))
    have HR3 := Lib.hid (HR2.out.later HBS.out)
    have HV := Lib.hid hv
    clear hD he
    subst hv
    go_wp2_with fail
    generalize w2.alloc (.cells #[.int .i64 t, .int .i64 s, .int .i64 so, .int .i64 d, .slice A1 cp.1 cp.2] 29) = w3 at HBS HR3 ⊢
    have HB3 := Lib.hid (below_step HB2.out HBS.out)
    refine (pbytes_any a0 l cap0 w3 HR3.out.at' HR3.out.byt HC.out (by have := HS.out; omega)).mono ?_
    rintro r w4 (⟨w5, v', n', e', hD', he', rfl, hb⟩ | ⟨T, s', so', d', N, ms', W, lx, yb, ytb, p, c, Yf, An, J, g, hP⟩)
    · obtain rfl := HD.out.err hD' HS.out HE.out he'
      have HB4 := Lib.hid (below_step HB3.out hb)
      clear hb hD' he'
      go_wp2_with fail
      go_ret
      exact ⟨by simp, HB4.out⟩
    · exact absurd (HD.out.yes hP.is hP.right hP.good hP.few).1 HE.out
end Go.Proofs.YtpfjommkjkbonaaGreat
