/-
  The contract of the laws' own bytes of a move. No condition but that its value is a number of 64 bits.
-/
import Derived.Test.YtpfjommkjkbonaaCodeRow
namespace Go.Proofs.Ytpfjommkjkbonaa
open Go.RowKit
set_option linter.unusedVariables false

/-- What the laws' own bytes answers. -/
def By18 (m : CM) (w : World) (r : Ending) (w' : World) : Prop := ∃ v l, r = .returned v ∧ Below w.heap.size w w' ∧ Own8 w' w.heap.size v l ∧ l.length ≤ 11 ∧ (m.Right → l = m.enc)
theorem wrap8 {x : Int} (h0 : 0 ≤ x) (h1 : x ≤ 255) : IntKind.u8.wrap x = x := by rw [IntKind.wrap_u8]; omega

set_option maxHeartbeats 4000000 in
theorem bytes18_1 (who ck ce v s n : Int) (w : World) : Calls Try.prog 13 #[.agg #[.int .i64 1, .int .i64 who, .int .i64 ck, .int .i64 ce, .int .u64 v, .int .i64 s, .int .i64 n]] w (By18 ⟨1, who, ck, ce, v, s, n⟩ w) := by
  obtain ⟨x, hx⟩ : ∃ x, IntKind.u8.wrap who = x := ⟨_, rfl⟩
  have HX := Lib.hid hx
  have HB := Lib.hid (below_new (below_new (Below.refl w.heap.size w) ((⟨1, who, ck, ce, v, s, n⟩ : CM).obj 40)) (.cells ([1, x].map u8).toArray 5))
  have HO := Lib.hid (row8_made (w.alloc ((⟨1, who, ck, ce, v, s, n⟩ : CM).obj 40)) w.heap.size [1, x] (by simp) (by unfold maxLen; simp))
  go_enter Try.func13, Try.ntmps13
  go_wp2_with fail
  go_ret
  exact ⟨_, [1, x], rfl, HB.out, by have h := HO.out; simp only [World.size_alloc] at h; exact h, by simp, fun hr => by
    rcases hr with hr | hr | hr
    · exact absurd hr.1 (by show ¬ (1 : Int) = 0; decide)
    · have h1 : 0 ≤ who := hr.2.1
      have h2 : who < 64 := hr.2.2.1
      rw [← HX.out, wrap8 h1 (by omega)]
      rfl
    · exact absurd hr.1 (by show ¬ (1 : Int) = 2; decide)⟩
set_option maxHeartbeats 4000000 in
theorem bytes18_2 (who ck ce v s n : Int) (w : World) : Calls Try.prog 13 #[.agg #[.int .i64 2, .int .i64 who, .int .i64 ck, .int .i64 ce, .int .u64 v, .int .i64 s, .int .i64 n]] w (By18 ⟨2, who, ck, ce, v, s, n⟩ w) := by
  obtain ⟨x, hx⟩ : ∃ x, IntKind.u8.wrap (n.tmod 256) = x := ⟨_, rfl⟩
  obtain ⟨d, hd⟩ : ∃ d, n.tdiv 256 = d := ⟨_, rfl⟩
  obtain ⟨y, hy⟩ : ∃ y, wrap64 d % 256 = y := ⟨_, rfl⟩
  have HX := Lib.hid (And.intro hx (And.intro hd hy))
  have HB := Lib.hid (below_new (below_new (Below.refl w.heap.size w) ((⟨2, who, ck, ce, v, s, n⟩ : CM).obj 40)) (.cells ([2, x, y].map u8).toArray 5))
  have HO := Lib.hid (row8_made (w.alloc ((⟨2, who, ck, ce, v, s, n⟩ : CM).obj 40)) w.heap.size [2, x, y] (by simp) (by unfold maxLen; simp))
  go_enter Try.func13, Try.ntmps13
  go_wp2_with fail
  go_ret
  exact ⟨_, [2, x, y], rfl, HB.out, by have h := HO.out; simp only [World.size_alloc] at h; exact h, by simp, fun hr => by
    rcases hr with hr | hr | hr
    · exact absurd hr.1 (by show ¬ (2 : Int) = 0; decide)
    · exact absurd hr.1 (by show ¬ (2 : Int) = 1; decide)
    · have h1 : 1 ≤ n := hr.2.2.2.2.2.2.1
      have h2 : n ≤ 65535 := hr.2.2.2.2.2.2.2
      obtain ⟨e1, e2, e3⟩ := HX.out
      rw [Int.tmod_eq_emod_of_nonneg (by omega), wrap8 (by omega) (by omega)] at e1
      rw [Int.tdiv_eq_ediv_of_nonneg (by omega)] at e2
      have e4 : wrap64 d = d := IntWalk.wrap64_in _ (by omega)
      rw [e4, ← e2] at e3
      show [2, x, y] = [2, n % 256, n / 256 % 256]
      rw [← e1, ← e3]⟩
set_option maxHeartbeats 4000000 in
theorem bytes18_g0 (k who ce v s n : Int) (w : World) (k1 : ¬ k = 1) (k2 : ¬ k = 2) (he : ¬ ce = 1) : Calls Try.prog 13 #[.agg #[.int .i64 k, .int .i64 who, .int .i64 1, .int .i64 ce, .int .u64 v, .int .i64 s, .int .i64 n]] w (By18 ⟨k, who, 1, ce, v, s, n⟩ w) := by
  obtain ⟨x, hx⟩ : ∃ x, IntKind.u8.wrap who = x := ⟨_, rfl⟩
  obtain ⟨y, hy⟩ : ∃ y, IntKind.u8.wrap s = y := ⟨_, rfl⟩
  have HX := Lib.hid (And.intro hx hy)
  have HE := Lib.hid he
  have HB := Lib.hid (below_new (below_new (Below.refl w.heap.size w) ((⟨k, who, 1, ce, v, s, n⟩ : CM).obj 40)) (.cells ([0, x, 1].map u8).toArray 5))
  have hO := row8_made (w.alloc ((⟨k, who, 1, ce, v, s, n⟩ : CM).obj 40)) w.heap.size [0, x, 1] (by simp) (by unfold maxLen; simp)
  simp only [World.size_alloc] at hO
  have HO := Lib.hid hO
  have HM := Lib.hid ((IsObj.made w (⟨k, who, 1, ce, v, s, n⟩ : CM).list 40).later (below_new (Below.refl _ _) (.cells ([0, x, 1].map u8).toArray 5)))
  clear hO
  go_enter Try.func13, Try.ntmps13
  go_wp2_with (at_builtin; go_loud (refine list_append_grew rfl _ _ 30 rfl w.heap.size 5 _ 1 1 elem_u8 (.slice (some ⟨w.heap.size + 1, 0, none⟩) 3 3) 3 ([0, x, 1].map u8) rfl (own8_new HO.out _) (some ⟨_, 0, none⟩) 1 1 [u8 y] rfl (src8_at _ _ [u8 y] 1 (by simp) rfl (one_u8 [y])) (by unfold maxLen; decide) (by decide) (by have := HB.out.size; first | omega | (simp; omega) | (simp at this ⊢; omega)) ?_); intro v' w4 hG; have HW := Lib.hid ((Wrote.refl HO.out).app (B := [y]) hG rfl rfl rfl); clear hG)
  go_ret
  exact ⟨v', [0, x, 1] ++ [y], rfl, below_keep HB.out HW.out.keep HB.out.size (fun q hq => (HO.out.lt q hq).1), HW.out.own, by simp, fun hr => by
    rcases hr with hr | hr | hr
    · obtain ⟨h0, h1, h2, h3, h4, h5⟩ := hr
      replace h0 : k = 0 := h0
      replace h1 : 0 ≤ who := h1
      replace h2 : who < 64 := h2
      replace h4 : (ce : Int) = 0 ∨ (ce : Int) = 1 := h4
      replace h5 : ((1 : Int) = 0 ∧ s = 0) ∨ ((1 : Int) = 1 ∧ v = 0 ∧ 0 ≤ s ∧ s ≤ 255) := h5
      obtain rfl : ce = 0 := by have := HE.out; omega
      subst h0
      rw [← HX.out.1, ← HX.out.2, wrap8 h1 (by omega), wrap8 (by omega) (by omega)]
      rfl
    · exact absurd hr.1 k1
    · exact absurd hr.1 k2⟩
set_option maxHeartbeats 4000000 in
theorem bytes18_g1 (k who ce v s n : Int) (w : World) (k1 : ¬ k = 1) (k2 : ¬ k = 2) (he : ce = 1) : Calls Try.prog 13 #[.agg #[.int .i64 k, .int .i64 who, .int .i64 1, .int .i64 ce, .int .u64 v, .int .i64 s, .int .i64 n]] w (By18 ⟨k, who, 1, ce, v, s, n⟩ w) := by
  subst he
  obtain ⟨x, hx⟩ : ∃ x, IntKind.u8.wrap who = x := ⟨_, rfl⟩
  obtain ⟨y, hy⟩ : ∃ y, IntKind.u8.wrap s = y := ⟨_, rfl⟩
  have HX := Lib.hid (And.intro hx hy)
  skip
  have HB := Lib.hid (below_new (below_new (Below.refl w.heap.size w) ((⟨k, who, 1, 1, v, s, n⟩ : CM).obj 40)) (.cells ([0, x, 3].map u8).toArray 5))
  have hO := row8_made (w.alloc ((⟨k, who, 1, 1, v, s, n⟩ : CM).obj 40)) w.heap.size [0, x, 3] (by simp) (by unfold maxLen; simp)
  simp only [World.size_alloc] at hO
  have HO := Lib.hid hO
  have HM := Lib.hid ((IsObj.made w (⟨k, who, 1, 1, v, s, n⟩ : CM).list 40).later (below_new (Below.refl _ _) (.cells ([0, x, 3].map u8).toArray 5)))
  clear hO
  go_enter Try.func13, Try.ntmps13
  go_wp2_with (at_builtin; go_loud (refine list_append_grew rfl _ _ 30 rfl w.heap.size 5 _ 1 1 elem_u8 (.slice (some ⟨w.heap.size + 1, 0, none⟩) 3 3) 3 ([0, x, 3].map u8) rfl (own8_new HO.out _) (some ⟨_, 0, none⟩) 1 1 [u8 y] rfl (src8_at _ _ [u8 y] 1 (by simp) rfl (one_u8 [y])) (by unfold maxLen; decide) (by decide) (by have := HB.out.size; first | omega | (simp; omega) | (simp at this ⊢; omega)) ?_); intro v' w4 hG; have HW := Lib.hid ((Wrote.refl HO.out).app (B := [y]) hG rfl rfl rfl); clear hG)
  go_ret
  exact ⟨v', [0, x, 3] ++ [y], rfl, below_keep HB.out HW.out.keep HB.out.size (fun q hq => (HO.out.lt q hq).1), HW.out.own, by simp, fun hr => by
    rcases hr with hr | hr | hr
    · obtain ⟨h0, h1, h2, h3, h4, h5⟩ := hr
      replace h0 : k = 0 := h0
      replace h1 : 0 ≤ who := h1
      replace h2 : who < 64 := h2
      replace h4 : (1 : Int) = 0 ∨ (1 : Int) = 1 := h4
      replace h5 : ((1 : Int) = 0 ∧ s = 0) ∨ ((1 : Int) = 1 ∧ v = 0 ∧ 0 ≤ s ∧ s ≤ 255) := h5
      skip
      subst h0
      rw [← HX.out.1, ← HX.out.2, wrap8 h1 (by omega), wrap8 (by omega) (by omega)]
      rfl
    · exact absurd hr.1 k1
    · exact absurd hr.1 k2⟩
set_option maxHeartbeats 4000000 in
theorem bytes18_p0 (k who ck ce v s n : Int) (w : World) (v0 : 0 ≤ v) (v1 : v ≤ 18446744073709551615) (k1 : ¬ k = 1) (k2 : ¬ k = 2) (hk : ¬ ck = 1) (he : ¬ ce = 1) : Calls Try.prog 13 #[.agg #[.int .i64 k, .int .i64 who, .int .i64 ck, .int .i64 ce, .int .u64 v, .int .i64 s, .int .i64 n]] w (By18 ⟨k, who, ck, ce, v, s, n⟩ w) := by
  obtain ⟨x, hx⟩ : ∃ x, IntKind.u8.wrap who = x := ⟨_, rfl⟩
  have HX := Lib.hid hx
  have HE := Lib.hid he
  have HK := Lib.hid hk
  have HB := Lib.hid (below_new (below_new (Below.refl w.heap.size w) (.cells #[.int .i64 k, .int .i64 who, .int .i64 ck, .int .i64 ce, .int .u64 v, .int .i64 s, .int .i64 n] 40)) (.cells #[.int .u8 0, .int .u8 x, .int .u8 0] 5))
  have hO := row8_made (w.alloc ((⟨k, who, ck, ce, v, s, n⟩ : CM).obj 40)) w.heap.size [0, x, 0] (by simp) (by unfold maxLen; simp)
  simp only [World.size_alloc] at hO
  have HW0 : Hid (Wrote w.heap.size ((w.alloc (.cells #[.int .i64 k, .int .i64 who, .int .i64 ck, .int .i64 ce, .int .u64 v, .int .i64 s, .int .i64 n] 40)).alloc (.cells #[.int .u8 0, .int .u8 x, .int .u8 0] 5)) ((w.alloc (.cells #[.int .i64 k, .int .i64 who, .int .i64 ck, .int .i64 ce, .int .u64 v, .int .i64 s, .int .i64 n] 40)).alloc (.cells #[.int .u8 0, .int .u8 x, .int .u8 0] 5)) (.slice (some ⟨w.heap.size + 1, 0, none⟩) 3 3) (.slice (some ⟨w.heap.size + 1, 0, none⟩) 3 3) ([0, x, 0] ++ le8 0 v)) := Lib.hid (by rw [show le8 0 v = [] from rfl, List.append_nil]; exact Wrote.refl hO)
  have HO : Hid (Own8 ((w.alloc (.cells #[.int .i64 k, .int .i64 who, .int .i64 ck, .int .i64 ce, .int .u64 v, .int .i64 s, .int .i64 n] 40)).alloc (.cells #[.int .u8 0, .int .u8 x, .int .u8 0] 5)) w.heap.size (.slice (some ⟨w.heap.size + 1, 0, none⟩) 3 3) [0, x, 0]) := Lib.hid hO
  clear hO
  have b1 : (k == 1) = false := beq_false_of_ne k1
  have b2 : (k == 2) = false := beq_false_of_ne k2
  have b3 : (ck == 1) = false := beq_false_of_ne hk
  have b4 : (ce == 1) = false := beq_false_of_ne he
  go_enter Try.func13, Try.ntmps13
  go_wp2_with fail
  generalize ((w.alloc (.cells #[.int .i64 k, .int .i64 who, .int .i64 ck, .int .i64 ce, .int .u64 v, .int .i64 s, .int .i64 n] 40)).alloc (.cells #[.int .u8 0, .int .u8 x, .int .u8 0] 5)) = wb at HW0 HB HO ⊢
  have Hbs := Lib.hid HB.out.size
  go_loopw [4, 5, 6] (fun bv xv iv wr => ∃ (i : Nat) (A1 : Option Addr) (cp1 : Nat) (y : Int), i ≤ 8 ∧ bv = .slice A1 (3 + i) cp1 ∧ xv = .int .u64 y ∧ iv = .int .i64 i ∧ 0 ≤ y ∧ y ≤ 18446744073709551615 ∧ Hid (y = v / 256 ^ i) ∧ Hid (Wrote w.heap.size wb wr (.slice (some ⟨w.heap.size + 1, 0, none⟩) 3 3) (.slice A1 (3 + i) cp1) ([0, x, 0] ++ le8 i v))) (fun _ _ iv _ => 8 - (RowKit.intOf iv).toNat)
  case atStart => exact ⟨0, _, _, v, Nat.zero_le _, rfl, rfl, rfl, v0, v1, Lib.hid (by rw [Int.pow_zero, Int.ediv_one]), HW0⟩
  case round =>
    clear HW0
    obtain ⟨i, A1, cp1, y, hi, rfl, rfl, rfl, y0, y1, HY, HW⟩ := hrel
    rcases Nat.lt_or_ge i 8 with hin | hin
    · have hin' : (i : Int) < 8 := by omega
      have HO1 := Lib.hid (show wr.ownsRow w.heap.size 5 1 (.slice A1 (3 + i) cp1) (3 + i) (([0, x, 0] ++ le8 i v).map u8) from HW.out.at' (by rw [List.length_append, le8_len]; rfl))
      have Hs := Lib.hid (Nat.le_trans Hbs.out HW.out.keep.size)
      have hq : IntKind.u8.wrap (y % 256) = y % 256 := wrap8 (by omega) (by omega)
      have hq2 : y.tmod 256 = y % 256 := Int.tmod_eq_emod_of_nonneg y0
      have hq3 : y.tdiv 256 = y / 256 := Int.tdiv_eq_ediv_of_nonneg y0
      go_wp2_with (at_builtin; go_loud (refine list_append_grew rfl _ _ 30 rfl w.heap.size 5 _ 1 1 elem_u8 (.slice A1 (3 + i) cp1) (3 + i) (([0, x, 0] ++ le8 i v).map u8) rfl (own8_new HO1.out _) (some ⟨_, 0, none⟩) 1 1 [u8 (y % 256)] rfl (src8_at _ _ [u8 (y % 256)] 1 (by simp) rfl (one_u8 [y % 256])) (by unfold maxLen; omega) (by omega) (by have := Hs.out; first | omega | (simp; omega) | (simp at this ⊢; omega)) ?_); intro v' w4 hG; have HG := Lib.hid hG; clear hG)
      have hW4 := HW.out.app (B := [y % 256]) (L2 := [0, x, 0] ++ le8 (i + 1) v) HG.out (by rw [List.length_append, le8_len]; rfl) rfl (by rw [le8_snoc, HY.out, List.append_assoc])
      obtain ⟨A2, cp2, rfl⟩ := own_shape HG.out.own
      have HW4 := Lib.hid hW4
      clear hW4 HG
      go_roundw
      case rel => exact ⟨i + 1, A2, cp2, y / 256, by omega, rfl, by go_num, by go_num, by omega, by omega, Lib.hid (by rw [HY.out, Int.pow_succ, Int.ediv_ediv_of_nonneg (Int.le_of_lt (Int.pow_pos (by decide)))]), HW4⟩
      case measure => first | omega | (simp [RowKit.intOf]; done) | (simp [RowKit.intOf]; omega)
    · obtain rfl : i = 8 := by omega
      go_wp2_with fail
      go_ret
      exact ⟨_, [0, x, 0] ++ le8 8 v, rfl, below_keep HB.out HW.out.keep HB.out.size (fun q hq => (HO.out.lt q hq).1), HW.out.own, by rw [List.length_append, le8_len]; simp, fun hr => by
        rcases hr with hr | hr | hr
        · obtain ⟨h0, h1, h2, h3, h4, h5⟩ := hr
          replace h0 : k = 0 := h0
          replace h1 : 0 ≤ who := h1
          replace h2 : who < 64 := h2
          replace h4 : (ce : Int) = 0 ∨ (ce : Int) = 1 := h4
          replace h5 : (ck = 0 ∧ s = 0) ∨ (ck = 1 ∧ v = 0 ∧ 0 ≤ s ∧ s ≤ 255) := h5
          have hk := HK.out
          obtain rfl : ce = 0 := by have := HE.out; omega
          obtain rfl : ck = 0 := by omega
          subst h0
          rw [← HX.out, wrap8 h1 (by omega)]
          rfl
        · exact absurd hr.1 k1
        · exact absurd hr.1 k2⟩
set_option maxHeartbeats 4000000 in
theorem bytes18_p1 (k who ck ce v s n : Int) (w : World) (v0 : 0 ≤ v) (v1 : v ≤ 18446744073709551615) (k1 : ¬ k = 1) (k2 : ¬ k = 2) (hk : ¬ ck = 1) (he : ce = 1) : Calls Try.prog 13 #[.agg #[.int .i64 k, .int .i64 who, .int .i64 ck, .int .i64 ce, .int .u64 v, .int .i64 s, .int .i64 n]] w (By18 ⟨k, who, ck, ce, v, s, n⟩ w) := by
  subst he
  obtain ⟨x, hx⟩ : ∃ x, IntKind.u8.wrap who = x := ⟨_, rfl⟩
  have HX := Lib.hid hx
  skip
  have HK := Lib.hid hk
  have HB := Lib.hid (below_new (below_new (Below.refl w.heap.size w) (.cells #[.int .i64 k, .int .i64 who, .int .i64 ck, .int .i64 1, .int .u64 v, .int .i64 s, .int .i64 n] 40)) (.cells #[.int .u8 0, .int .u8 x, .int .u8 2] 5))
  have hO := row8_made (w.alloc ((⟨k, who, ck, 1, v, s, n⟩ : CM).obj 40)) w.heap.size [0, x, 2] (by simp) (by unfold maxLen; simp)
  simp only [World.size_alloc] at hO
  have HW0 : Hid (Wrote w.heap.size ((w.alloc (.cells #[.int .i64 k, .int .i64 who, .int .i64 ck, .int .i64 1, .int .u64 v, .int .i64 s, .int .i64 n] 40)).alloc (.cells #[.int .u8 0, .int .u8 x, .int .u8 2] 5)) ((w.alloc (.cells #[.int .i64 k, .int .i64 who, .int .i64 ck, .int .i64 1, .int .u64 v, .int .i64 s, .int .i64 n] 40)).alloc (.cells #[.int .u8 0, .int .u8 x, .int .u8 2] 5)) (.slice (some ⟨w.heap.size + 1, 0, none⟩) 3 3) (.slice (some ⟨w.heap.size + 1, 0, none⟩) 3 3) ([0, x, 2] ++ le8 0 v)) := Lib.hid (by rw [show le8 0 v = [] from rfl, List.append_nil]; exact Wrote.refl hO)
  have HO : Hid (Own8 ((w.alloc (.cells #[.int .i64 k, .int .i64 who, .int .i64 ck, .int .i64 1, .int .u64 v, .int .i64 s, .int .i64 n] 40)).alloc (.cells #[.int .u8 0, .int .u8 x, .int .u8 2] 5)) w.heap.size (.slice (some ⟨w.heap.size + 1, 0, none⟩) 3 3) [0, x, 2]) := Lib.hid hO
  clear hO
  have b1 : (k == 1) = false := beq_false_of_ne k1
  have b2 : (k == 2) = false := beq_false_of_ne k2
  have b3 : (ck == 1) = false := beq_false_of_ne hk
  skip
  go_enter Try.func13, Try.ntmps13
  go_wp2_with fail
  generalize ((w.alloc (.cells #[.int .i64 k, .int .i64 who, .int .i64 ck, .int .i64 1, .int .u64 v, .int .i64 s, .int .i64 n] 40)).alloc (.cells #[.int .u8 0, .int .u8 x, .int .u8 2] 5)) = wb at HW0 HB HO ⊢
  have Hbs := Lib.hid HB.out.size
  go_loopw [4, 5, 6] (fun bv xv iv wr => ∃ (i : Nat) (A1 : Option Addr) (cp1 : Nat) (y : Int), i ≤ 8 ∧ bv = .slice A1 (3 + i) cp1 ∧ xv = .int .u64 y ∧ iv = .int .i64 i ∧ 0 ≤ y ∧ y ≤ 18446744073709551615 ∧ Hid (y = v / 256 ^ i) ∧ Hid (Wrote w.heap.size wb wr (.slice (some ⟨w.heap.size + 1, 0, none⟩) 3 3) (.slice A1 (3 + i) cp1) ([0, x, 2] ++ le8 i v))) (fun _ _ iv _ => 8 - (RowKit.intOf iv).toNat)
  case atStart => exact ⟨0, _, _, v, Nat.zero_le _, rfl, rfl, rfl, v0, v1, Lib.hid (by rw [Int.pow_zero, Int.ediv_one]), HW0⟩
  case round =>
    clear HW0
    obtain ⟨i, A1, cp1, y, hi, rfl, rfl, rfl, y0, y1, HY, HW⟩ := hrel
    rcases Nat.lt_or_ge i 8 with hin | hin
    · have hin' : (i : Int) < 8 := by omega
      have HO1 := Lib.hid (show wr.ownsRow w.heap.size 5 1 (.slice A1 (3 + i) cp1) (3 + i) (([0, x, 2] ++ le8 i v).map u8) from HW.out.at' (by rw [List.length_append, le8_len]; rfl))
      have Hs := Lib.hid (Nat.le_trans Hbs.out HW.out.keep.size)
      have hq : IntKind.u8.wrap (y % 256) = y % 256 := wrap8 (by omega) (by omega)
      have hq2 : y.tmod 256 = y % 256 := Int.tmod_eq_emod_of_nonneg y0
      have hq3 : y.tdiv 256 = y / 256 := Int.tdiv_eq_ediv_of_nonneg y0
      go_wp2_with (at_builtin; go_loud (refine list_append_grew rfl _ _ 30 rfl w.heap.size 5 _ 1 1 elem_u8 (.slice A1 (3 + i) cp1) (3 + i) (([0, x, 2] ++ le8 i v).map u8) rfl (own8_new HO1.out _) (some ⟨_, 0, none⟩) 1 1 [u8 (y % 256)] rfl (src8_at _ _ [u8 (y % 256)] 1 (by simp) rfl (one_u8 [y % 256])) (by unfold maxLen; omega) (by omega) (by have := Hs.out; first | omega | (simp; omega) | (simp at this ⊢; omega)) ?_); intro v' w4 hG; have HG := Lib.hid hG; clear hG)
      have hW4 := HW.out.app (B := [y % 256]) (L2 := [0, x, 2] ++ le8 (i + 1) v) HG.out (by rw [List.length_append, le8_len]; rfl) rfl (by rw [le8_snoc, HY.out, List.append_assoc])
      obtain ⟨A2, cp2, rfl⟩ := own_shape HG.out.own
      have HW4 := Lib.hid hW4
      clear hW4 HG
      go_roundw
      case rel => exact ⟨i + 1, A2, cp2, y / 256, by omega, rfl, by go_num, by go_num, by omega, by omega, Lib.hid (by rw [HY.out, Int.pow_succ, Int.ediv_ediv_of_nonneg (Int.le_of_lt (Int.pow_pos (by decide)))]), HW4⟩
      case measure => first | omega | (simp [RowKit.intOf]; done) | (simp [RowKit.intOf]; omega)
    · obtain rfl : i = 8 := by omega
      go_wp2_with fail
      go_ret
      exact ⟨_, [0, x, 2] ++ le8 8 v, rfl, below_keep HB.out HW.out.keep HB.out.size (fun q hq => (HO.out.lt q hq).1), HW.out.own, by rw [List.length_append, le8_len]; simp, fun hr => by
        rcases hr with hr | hr | hr
        · obtain ⟨h0, h1, h2, h3, h4, h5⟩ := hr
          replace h0 : k = 0 := h0
          replace h1 : 0 ≤ who := h1
          replace h2 : who < 64 := h2
          replace h4 : (1 : Int) = 0 ∨ (1 : Int) = 1 := h4
          replace h5 : (ck = 0 ∧ s = 0) ∨ (ck = 1 ∧ v = 0 ∧ 0 ≤ s ∧ s ≤ 255) := h5
          have hk := HK.out
          skip
          obtain rfl : ck = 0 := by omega
          subst h0
          rw [← HX.out, wrap8 h1 (by omega)]
          rfl
        · exact absurd hr.1 k1
        · exact absurd hr.1 k2⟩
theorem bytes18_any (m : CM) (w : World) (hm : m.Fit) : Calls Try.prog 13 #[m.val] w (By18 m w) := by
  obtain ⟨k, who, ck, ce, v, s, n⟩ := m
  by_cases k1 : k = 1
  · subst k1
    exact bytes18_1 who ck ce v s n w
  by_cases k2 : k = 2
  · subst k2
    exact bytes18_2 who ck ce v s n w
  by_cases hk : ck = 1
  · subst hk
    by_cases he : ce = 1
    · exact bytes18_g1 k who ce v s n w k1 k2 he
    · exact bytes18_g0 k who ce v s n w k1 k2 he
  · by_cases he : ce = 1
    · exact bytes18_p1 k who ck ce v s n w hm.1 hm.2 k1 k2 hk he
    · exact bytes18_p0 k who ck ce v s n w hm.1 hm.2 k1 k2 hk he
end Go.Proofs.Ytpfjommkjkbonaa
