/-
  Contracts of what the laws on pick ask by themselves: a word of something live, which place came later, which stands ahead, and the example at every law's head. No condition but that numbers fit their kinds.
-/
import Derived.Test.YticphioeipbnmaaMore
import Derived.Test.YticphioeipbnmaaPickAt
import Derived.Test.YticphioeipbnmaaStampCalls2
namespace Go.Proofs.Yticphioeipbnmaa
open Go.RowKit
set_option linter.unusedVariables false

/-- A word's parts. -/
theorem fld1 (s e g lo hi : Int) (w : World) : (Instr.field 52 (wd s e g lo hi) 1).run Try.prog w = .ok (i64 e) w := by
  simp [Instr.field, go_sem, asAgg]
theorem fld3 (s e g lo hi : Int) (w : World) : (Instr.field 52 (wd s e g lo hi) 3).run Try.prog w = .ok (st lo hi) w := by
  simp [Instr.field, go_sem, asAgg, Try.isAgg50, Try.sizeOf50]
attribute [local go_sem ↓] fld0 fld1 fld3

/-- A word of something that came at an end, at one number. -/
def liveW (e n : Int) : Int := 1 + 4 * e + 8 * 1 + 65536 * n + 1099511627776 * n
/-- Did the thing in one place come later than that in another one? -/
def laterB (x y : Int) (i j : Nat) : Bool := decide (lkey (y / 65536 % 16777216) (y / 1099511627776) j < lkey (x / 65536 % 16777216) (x / 1099511627776) i)

set_option maxRecDepth 100000 in
set_option maxHeartbeats 4000000 in
theorem lawlater_any (W : World) (b off n cap : Nat) (i j : Nat) (x y : Int) (hi : i < n) (hj : j < n) (hn : n ≤ 1000000) (hx : W.cell? ⟨b, off + i, none⟩ = some (u64 x)) (hy : W.cell? ⟨b, off + j, none⟩ = some (u64 y)) (x0 : 0 ≤ x) (x1 : x ≤ 18446744073709551615) (y0 : 0 ≤ y) (y1 : y ≤ 18446744073709551615) :
    Calls Try.prog 52 #[.slice (some ⟨b, off, none⟩) n cap, i64 i, i64 j] W fun r w' => r = .returned (.bool (laterB x y i j)) ∧ Below W.heap.size W w' := by
  have i0 : (0 : Int) ≤ (i : Int) := by omega
  have i1 : (i : Int) < (n : Int) := by omega
  have j0 : (0 : Int) ≤ (j : Int) := by omega
  have j1 : (j : Int) < (n : Int) := by omega
  have HK : Hid (laterB x y i j = decide (0 < cmpS (x / 65536 % 16777216) (x / 1099511627776) (y / 65536 % 16777216) (y / 1099511627776) ∨ (cmpS (x / 65536 % 16777216) (x / 1099511627776) (y / 65536 % 16777216) (y / 1099511627776) = 0 ∧ j < i))) :=
    decide_eq_decide.2 (later_key (by omega) (by omega) (by omega) (by omega) (by omega) (by omega)).symm
  go_enter Try.func52, Try.ntmps52
  go_wp2_with fail
  refine wp_region_seq ((0, true) :: (1, true) :: (2, true) :: (3, true) :: (6, true) :: (7, true) :: (8, true) :: (9, true) :: (4, false) :: (5, true) :: (10, false) :: (11, true) :: (12, false) :: (13, true) :: []) (by kernel_rfl) (by kernel_rfl) (by kernel_rfl) (by decide) (fun _ _ _ _ _ h => h) (fun hHeld => ?_)
  repeat (first
    | (refine seq_take (v := ?_) rfl ?_ ?_ ?_; rotate_left 1; rfl; (focus (intro wS hSw; have hk := below_rule hSw; go_simp; first | done | with_reducible rfl)); (try simp only [Act.put, List.setIfInBounds_toArray, List.set_cons_zero, List.set_cons_succ]))
    | (refine seq_skip rfl ?_ ?_; rfl; (try simp only [Act.put, List.setIfInBounds_toArray, List.set_cons_zero, List.set_cons_succ]))
    | (refine seq_run rfl (fun K hK => ?_); go_simp; (try (first | (go_at_call 36; refine (unpack_any _ _ (by assumption) (by assumption)).mono ?_; rintro e w' ⟨rfl, hb'⟩) | (go_at_call 54; refine (lawcompare_any _ _ _ _ _).mono ?_; rintro e w' ⟨rfl, hb'⟩))); (try go_wp2_with fail); refine hK.out _ _ ?_ ?_; (focus (first | exact below_step hHeld hb' | exact below_new hHeld _ | exact hHeld)); (try clear hb'); clear hHeld hK K; intro hHeld; (try simp only [Act.put, List.setIfInBounds_toArray, List.set_cons_zero, List.set_cons_succ])))
  first | refine seq_done ?_ | skip
  rcases cmpS_cases (x / 65536 % 16777216) (x / 1099511627776) (y / 65536 % 16777216) (y / 1099511627776) with ⟨h, _⟩ | ⟨h, _⟩ | ⟨h, _⟩
  · rw [h] at HK ⊢
    clear h
    go_wp2_with fail
    go_ret
    exact ⟨by rw [HK.out]; rfl, hHeld⟩
  · rw [h] at HK ⊢
    clear h
    by_cases hij : j < i
    · have hij' : (j : Int) < (i : Int) := by omega
      have HJ := Lib.hid hij
      clear hij
      go_wp2_with fail
      go_ret
      exact ⟨by rw [HK.out, decide_eq_true (by simp [HJ.out])]; rfl, hHeld⟩
    · have hij' : ¬ (j : Int) < (i : Int) := by omega
      have HJ := Lib.hid hij
      clear hij
      go_wp2_with fail
      go_ret
      exact ⟨by rw [HK.out, decide_eq_false (by simp; exact Nat.le_of_not_lt HJ.out)]; rfl, hHeld⟩
  · rw [h] at HK ⊢
    clear h
    go_wp2_with fail
    go_ret
    exact ⟨by rw [HK.out]; rfl, hHeld⟩

theorem ahead_left {x y : Int} {i j : Nat} (h : x / 4 % 2 = 0) (h' : y / 4 % 2 = 0) : laterB x y i j = decide (xkey x i < xkey y j) := by
  refine decide_eq_decide.2 ?_
  unfold xkey pkey
  rw [if_pos h, if_pos h']
  omega
theorem ahead_right {x y : Int} {i j : Nat} (h : ¬ x / 4 % 2 = 0) (h' : ¬ y / 4 % 2 = 0) : laterB y x j i = decide (xkey x i < xkey y j) := by
  refine decide_eq_decide.2 ?_
  unfold xkey pkey
  rw [if_neg h, if_neg h']
theorem ahead_ends {x y : Int} {i j : Nat} (x0 : 0 ≤ x) (x1 : x ≤ 18446744073709551615) (y0 : 0 ≤ y) (y1 : y ≤ 18446744073709551615) (h : ¬ x / 4 % 2 = y / 4 % 2) : decide (x / 4 % 2 = 0) = decide (xkey x i < xkey y j) := by
  refine decide_eq_decide.2 ?_
  have n1 : 0 ≤ lkey (x / 65536 % 16777216) (x / 1099511627776) i := lkey_nn (by omega) (by omega)
  have n2 : 0 ≤ lkey (y / 65536 % 16777216) (y / 1099511627776) j := lkey_nn (by omega) (by omega)
  unfold xkey pkey
  generalize lkey (x / 65536 % 16777216) (x / 1099511627776) i = u at n1 ⊢
  generalize lkey (y / 65536 % 16777216) (y / 1099511627776) j = v at n2 ⊢
  have e0 : x / 4 % 2 = 0 ∨ x / 4 % 2 = 1 := by omega
  have f0 : y / 4 % 2 = 0 ∨ y / 4 % 2 = 1 := by omega
  generalize x / 4 % 2 = e at e0 h ⊢
  generalize y / 4 % 2 = f at f0 h ⊢
  rcases e0 with rfl | rfl <;> rcases f0 with rfl | rfl
  · exact absurd rfl h
  · simp
    omega
  · simp
    omega
  · exact absurd rfl h

set_option maxRecDepth 100000 in
set_option maxHeartbeats 4000000 in
theorem lawahead_any (W : World) (b off n cap : Nat) (i j : Nat) (x y : Int) (hi : i < n) (hj : j < n) (hn : n ≤ 1000000) (hx : W.cell? ⟨b, off + i, none⟩ = some (u64 x)) (hy : W.cell? ⟨b, off + j, none⟩ = some (u64 y)) (x0 : 0 ≤ x) (x1 : x ≤ 18446744073709551615) (y0 : 0 ≤ y) (y1 : y ≤ 18446744073709551615) :
    Calls Try.prog 45 #[.slice (some ⟨b, off, none⟩) n cap, i64 i, i64 j] W fun r w' => r = .returned (.bool (decide (xkey x i < xkey y j))) ∧ Below W.heap.size W w' := by
  have i0 : (0 : Int) ≤ (i : Int) := by omega
  have i1 : (i : Int) < (n : Int) := by omega
  have j0 : (0 : Int) ≤ (j : Int) := by omega
  have j1 : (j : Int) < (n : Int) := by omega
  have HX := Lib.hid hx
  have HY := Lib.hid hy
  obtain ⟨e, he⟩ : ∃ e : Int, x / 4 % 2 = e := ⟨_, rfl⟩
  obtain ⟨f, hf⟩ : ∃ f : Int, y / 4 % 2 = f := ⟨_, rfl⟩
  have HE := Lib.hid he
  have HF := Lib.hid hf
  clear he hf
  go_enter Try.func45, Try.ntmps45
  go_wp2_with fail
  refine (unpack_any x _ x0 x1).mono ?_
  rintro r w1 ⟨rfl, hb1⟩
  have HB1 := Lib.hid hb1
  replace hx := (below_rule hb1 _ (by rw [hx]; rfl)).trans hx
  replace hy := (below_rule hb1 _ (by rw [hy]; rfl)).trans hy
  clear hb1
  rw [HE.out]
  go_wp2_with fail
  refine (unpack_any y _ y0 y1).mono ?_
  rintro r w2 ⟨rfl, hb2⟩
  have HB2 := Lib.hid (below_step HB1.out hb2)
  replace hx := Lib.hid ((below_rule hb2 _ (by rw [hx]; rfl)).trans hx)
  replace hy := Lib.hid ((below_rule hb2 _ (by rw [hy]; rfl)).trans hy)
  clear hb2
  rw [HF.out]
  by_cases hef : e = f
  · subst hef
    by_cases h0 : e = 0
    · subst h0
      go_wp2_with fail
      refine (lawlater_any _ b off n cap i j x y hi hj hn hx.out hy.out x0 x1 y0 y1).mono ?_
      rintro r w3 ⟨rfl, hb3⟩
      rw [ahead_left HE.out HF.out]
      go_wp2_with fail
      go_ret
      exact ⟨rfl, below_step HB2.out hb3⟩
    · have h0' : (e == 0) = false := by simpa using h0
      have H0 := Lib.hid h0
      clear h0
      go_wp2_with fail
      refine (lawlater_any _ b off n cap j i y x hj hi hn hy.out hx.out y0 y1 x0 x1).mono ?_
      rintro r w3 ⟨rfl, hb3⟩
      rw [ahead_right (by rw [HE.out]; exact H0.out) (by rw [HF.out]; exact H0.out)]
      go_wp2_with fail
      go_ret
      exact ⟨rfl, below_step HB2.out hb3⟩
  · have hq : (e != f) = true := by simpa using hef
    have HQ : Hid (decide (e = 0) = decide (xkey x i < xkey y j)) := by
      have := ahead_ends (i := i) (j := j) x0 x1 y0 y1 (by rw [HE.out, HF.out]; exact hef)
      rwa [HE.out] at this
    clear hef
    by_cases h0 : e = 0
    · have h0' : (e == 0) = true := by simpa using h0
      have H0 := Lib.hid h0
      clear h0
      go_wp2_with fail
      go_ret
      exact ⟨by rw [← HQ.out, decide_eq_true H0.out]; rfl, HB2.out⟩
    · have h0' : (e == 0) = false := by simpa using h0
      have H0 := Lib.hid h0
      clear h0
      go_wp2_with fail
      go_ret
      exact ⟨by rw [← HQ.out, decide_eq_false H0.out]; rfl, HB2.out⟩

end Go.Proofs.Yticphioeipbnmaa
