/-
  PickNewest answers true for every list of words and either end, and leaves all memory that was there as it was. No condition.
-/
import Derived.Test.YthncappmjdgmnaaPickRow
namespace Go.Proofs.Ythncappmjdgmnaa
open Go.RowKit
set_option linter.unusedVariables false
attribute [local go_sem ↓] fld0 fld1 fld3

/-- A word that is laid into a block of its own: unpacked ahead of that, or behind it. -/
theorem liveW_state (e n : Int) (e0 : 0 ≤ e) (e1 : e ≤ 1) (n0 : 0 ≤ n) (n1 : n ≤ 16777215) : liveW e n % 4 = 1 ∧ liveW e n / 4 % 2 = e ∧ liveW e n / 65536 % 16777216 = n ∧ liveW e n / 1099511627776 = n ∧ 0 ≤ liveW e n ∧ liveW e n ≤ 18446744073709551615 := by
  unfold liveW
  omega

theorem getD_last (ws : List Int) (x : Int) : (ws ++ [x]).getD ws.length 0 = x := by
  rw [List.getD_eq_getElem?_getD, List.getElem?_append_right (Nat.le_refl _), Nat.sub_self]
  rfl
theorem getD_init (ws : List Int) (x : Int) {i : Nat} (hi : i < ws.length) : (ws ++ [x]).getD i 0 = ws.getD i 0 := by
  rw [List.getD_eq_getElem?_getD, List.getElem?_append_left hi, ← List.getD_eq_getElem?_getD]

/-- What came later than all others stands at its end. -/
theorem newest_end {ws : List Int} {e n z : Int} (e01 : e = 0 ∨ e = 1) (n0 : 0 ≤ n) (n1 : n ≤ 16777214) (hn : ws.length ≤ 1000) (hf : ∀ i, 0 ≤ ws.getD i 0 ∧ ws.getD i 0 ≤ 18446744073709551615)
    (hlo : ∀ i, i < ws.length → live ws i → ws.getD i 0 / 65536 % 16777216 ≤ n) (h : IsEnd (ws ++ [liveW e (n + 1)]) e z) : z = (ws.length : Int) := by
  obtain ⟨s1, s2, s3, s4, s5, s6⟩ := liveW_state e (n + 1) (by omega) (by omega) (by omega) (by omega)
  have hl : live (ws ++ [liveW e (n + 1)]) ws.length := by show (ws ++ [_]).getD ws.length 0 % 4 = 1; rw [getD_last]; exact s1
  have hlen : (ws ++ [liveW e (n + 1)]).length = ws.length + 1 := by simp
  rcases h with ⟨_, h⟩ | ⟨i, rfl, h1, h2, h3⟩
  · exact absurd hl (h _ (by omega))
  · rcases (by omega : i = ws.length ∨ i < ws.length) with rfl | hi
    · rfl
    · exfalso
      have h4 := h3 ws.length (by omega) hl
      have h5 := hlo i hi (by have : (ws ++ [liveW e (n + 1)]).getD i 0 % 4 = 1 := h2; rwa [getD_init _ _ hi] at this)
      have hfi := hf i
      unfold wkey xkey pkey at h4
      rw [getD_last, getD_init _ _ hi, s2, s3, s4] at h4
      have g0 : ws.getD i 0 / 4 % 2 = 0 ∨ ws.getD i 0 / 4 % 2 = 1 := by omega
      have g1 : 0 ≤ ws.getD i 0 / 65536 % 16777216 := by omega
      have g2 : 0 ≤ ws.getD i 0 / 1099511627776 ∧ ws.getD i 0 / 1099511627776 < 16777216 := by omega
      unfold lkey at h4
      generalize ws.getD i 0 / 65536 % 16777216 = u at *
      generalize ws.getD i 0 / 1099511627776 = v at *
      generalize ws.getD i 0 / 4 % 2 = f at *
      clear hfi h3 h2 hl hlo s1 s2 s3 s4 s5 s6
      rcases e01 with rfl | rfl <;> rcases g0 with rfl | rfl <;> simp at h4 <;> omega

theorem fit_snoc {ws : List Int} {x : Int} (hf : ∀ i, 0 ≤ ws.getD i 0 ∧ ws.getD i 0 ≤ 18446744073709551615) (x0 : 0 ≤ x) (x1 : x ≤ 18446744073709551615) (i : Nat) : 0 ≤ (ws ++ [x]).getD i 0 ∧ (ws ++ [x]).getD i 0 ≤ 18446744073709551615 := by
  rcases (by omega : i < ws.length ∨ i = ws.length ∨ ws.length < i) with h | rfl | h
  · rw [getD_init _ _ h]
    exact hf i
  · rw [getD_last]
    exact ⟨x0, x1⟩
  · rw [List.getD_eq_getElem?_getD, List.getElem?_eq_none (by simp; omega)]
    decide

set_option maxRecDepth 100000 in
set_option maxHeartbeats 8000000 in
theorem walk_PickNewest (a0 : Option Addr) (len0 cap0 : Nat) (a1 : Bool) (w : World) (w0 : IsRows w [.inl .u64] a0 len0 cap0) :
    Calls Try.prog 8 #[.slice a0 len0 cap0, .bool a1] w fun e w' => e = .returned (.bool true) ∧ Below w.heap.size w w' := by
  obtain ⟨ws, rfl, hW⟩ := rows_words w0
  clear w0
  have HW := Lib.hid hW
  clear hW
  by_cases hbig : 60 < ws.length
  · have hbig' : (60 : Int) < (ws.length : Int) := by omega
    go_enter Try.func8, Try.ntmps8
    go_wp2_with fail
    refine (head8_any _).mono ?_
    rintro e w1 ⟨rfl, hb1⟩
    go_wp2_with fail
    go_ret
    exact ⟨rfl, hb1⟩
  have p0 : decide ((60 : Int) < (ws.length : Int)) = false := decide_eq_false (by omega)
  obtain ⟨len, hlen⟩ : ∃ len : Nat, ws.length = len := ⟨_, rfl⟩
  have Hlen := Lib.hid hlen
  rw [hlen] at hbig p0 ⊢
  clear hlen
  go_enter Try.func8, Try.ntmps8
  go_wp2_with fail
  refine (head8_any _).mono ?_
  rintro e w1 ⟨rfl, hb1⟩
  have HB1 := Lib.hid hb1
  have HWo := Lib.hid (HW.out.later hb1)
  clear hb1
  go_wp2_with fail
  obtain ⟨wo, rfl⟩ : ∃ wo : World, wo = w1 := ⟨_, rfl⟩
  go_loopw [5, 18] (fun vm i wr => ∃ (e : Nat) (m : Int), e ≤ len ∧ i = .int .i64 e ∧ vm = .int .i64 m ∧ 0 ≤ m ∧ m ≤ 16777215 ∧ Hid (∀ j, j < e → live ws j → ws.getD j 0 / 65536 % 16777216 ≤ m) ∧ Hid (Below wo.heap.size wo wr)) (fun _ i _ => len - (intOf i).toNat)
  case atStart => exact ⟨0, 0, by omega, rfl, rfl, by omega, by omega, fun j hj => by omega, Below.refl _ _⟩
  case round =>
    obtain ⟨e, m, he, rfl, rfl, m0, m1, HM, HB⟩ := hrel
    rcases Nat.lt_or_ge e len with heN | heN
    · have heN' : (e : Int) < (len : Int) := by omega
      obtain ⟨b, off, rfl, hc⟩ := HWo.out.has (by have := Hlen.out; omega)
      have hx := (below_rule HB.out _ (by rw [hc e (by have := Hlen.out; omega)]; rfl)).trans (hc e (by have := Hlen.out; omega))
      have hf := HW.out.fit e
      obtain ⟨x, hxe⟩ : ∃ x : Int, ws.getD e 0 = x := ⟨_, rfl⟩
      rw [hxe] at hx hf
      obtain ⟨x0, x1⟩ := hf
      have HX := Lib.hid hxe
      clear hxe hc
      go_wp2_with fail
      refine (unpack_any x _ x0 x1).mono ?_
      rintro r w5 ⟨rfl, hb5⟩
      have HB5 := Lib.hid (below_new (below_step HB.out hb5) (.cells #[.int .i64 (x % 4), .int .i64 (x / 4 % 2), .int .i64 (x / 8 % 8192), .int .i64 (x / 65536 % 16777216), .int .i64 (x / 1099511627776)] 34))
      clear hb5 HB hx
      obtain ⟨lo, hlo⟩ : ∃ lo : Int, x / 65536 % 16777216 = lo := ⟨_, rfl⟩
      have lo0 : 0 ≤ lo := by omega
      have lo1 : lo ≤ 16777215 := by omega
      rw [hlo] at HB5 ⊢
      have HLO := Lib.hid hlo
      clear hlo
      by_cases h1 : x % 4 = 1
      · have h1' : (x % 4 == 1) = true := by simp [h1]
        clear h1
        by_cases h2 : m < lo
        · go_wp2_with fail
          go_roundw
          case rel => exact ⟨e + 1, lo, by omega, by go_num, rfl, lo0, lo1, (fun j hj hl => by
            rcases Nat.lt_or_ge j e with h3 | h3
            · have := HM.out j h3 hl
              omega
            · obtain rfl : j = e := by omega
              rw [HX.out, HLO.out]
              exact Int.le_refl _), HB5⟩
          case measure => first | omega | (simp [intOf]; done) | (simp [intOf]; omega)
        · go_wp2_with fail
          go_roundw
          case rel => exact ⟨e + 1, m, by omega, by go_num, rfl, m0, m1, (fun j hj hl => by
            rcases Nat.lt_or_ge j e with h3 | h3
            · exact HM.out j h3 hl
            · obtain rfl : j = e := by omega
              rw [HX.out, HLO.out]
              omega), HB5⟩
          case measure => first | omega | (simp [intOf]; done) | (simp [intOf]; omega)
      · have h1' : (x % 4 == 1) = false := by simp [h1]
        have HNL : Hid (¬ live ws e) := by show ¬ (ws.getD e 0 % 4 = 1); rw [HX.out]; exact h1
        clear h1
        go_wp2_with fail
        go_roundw
        case rel => exact ⟨e + 1, m, by omega, by go_num, rfl, m0, m1, (fun j hj hl => by
          rcases Nat.lt_or_ge j e with h3 | h3
          · exact HM.out j h3 hl
          · obtain rfl : j = e := by omega
            exact absurd hl HNL.out), HB5⟩
        case measure => first | omega | (simp [intOf]; done) | (simp [intOf]; omega)
    · have heN' : ¬ (e : Int) < (len : Int) := by omega
      obtain rfl : e = len := by omega
      by_cases hm : 16777214 ≤ m
      · go_wp2_with fail
        go_ret
        exact ⟨rfl, below_step HB1.out HB.out⟩
      · have hm' : m < 16777214 := by omega
        clear hm
        have key : ∀ (ee : Int), ee = 0 ∨ ee = 1 → ∀ (z : Int), IsEnd (ws ++ [liveW ee (m + 1)]) ee z → z = (e : Int) := fun ee hee z hz => by
          rw [← Hlen.out]
          exact newest_end hee m0 (by omega) (by have := Hlen.out; omega) HW.out.fit (fun i hi => HM.out i (by have := Hlen.out; omega)) hz
        have KEY := Lib.hid key
        have HWr := Lib.hid (HWo.out.later HB.out)
        have HHa : Hid (Hold wr (wr.alloc (.cells #[] 29)) [tRow wr.heap.size 29 1 (.slice (some ⟨wr.heap.size, 0, none⟩) 0 0) 0 []]) :=
          Hold.more (l := []) (Hold.nil (Below.refl _ _)) (below_new (Below.refl _ _) (.cells #[] 29)) (tRow_ok _ _ _ _ _ _) (tRow_made wr _ 29 1 (Nat.le_refl _)) tRow_new
        have hS1 := src_words (HWr.out.later (below_new (Below.refl _ _) (.cells #[] 29)))
        rw [Hlen.out] at hS1
        have HS1 := Lib.hid hS1
        have HL : Hid (∀ ee : Int, 0 ≤ ee → ee ≤ 1 → 0 ≤ liveW ee (m + 1) ∧ liveW ee (m + 1) ≤ 18446744073709551615) := fun ee h1 h2 => (liveW_state ee (m + 1) h1 h2 (by omega) (by omega)).2.2.2.2
        clear key hS1
        cases a1 with
        | false =>
          go_wp2_with (first
            | (at_builtin; refine list_append_grew rfl _ _ 22 rfl wr.heap.size 29 _ 1 8 elem_u64 (.slice (some ⟨wr.heap.size, 0, none⟩) 0 0) 0 [] rfl (Hold.has HHa.out 0 _ rfl) a0 e cap0 _ rfl HS1.out (by unfold maxLen; omega) (by omega) HHa.out.size ?_; intro v1 w8 hG; rw [Nat.zero_add, List.nil_append] at hG; have HH8 := Lib.hid (HHa.out.append 0 rfl rfl hG); clear hG; clear HS1; obtain ⟨A1, cp1, rfl⟩ := own_shape (Hold.has HH8.out 0 _ rfl))
            | (go_at_call 24; refine (lawlive_any 0 (m + 1) _ (by omega) (by omega) (by omega) (by omega)).mono ?_; rintro r w9 ⟨rfl, hb9⟩; have HH9 := Lib.hid ((HH8.out.later hb9).later (below_new (Below.refl _ _) (.cells #[.int .u64 (liveW 0 (m + 1))] 29))); clear hb9)
            | (at_builtin; refine list_append_grew rfl _ _ 22 rfl wr.heap.size 29 _ 1 8 elem_u64 (.slice A1 e cp1) e (ws.map (Value.int .u64)) rfl (Hold.has HH9.out 0 _ rfl) (some ⟨_, 0, none⟩) 1 1 [.int .u64 (liveW 0 (m + 1))] rfl (src_list w9 [.int .u64 (liveW 0 (m + 1))] 29 1 1 rfl (one_int _ _)) (by unfold maxLen; omega) (by omega) HH9.out.size ?_; intro v2 w10 hG; rw [show ws.map (Value.int .u64) ++ [.int .u64 (liveW 0 (m + 1))] = (ws ++ [liveW 0 (m + 1)]).map (Value.int .u64) by rw [List.map_append]; rfl] at hG; have HH10 := Lib.hid (HH9.out.append 0 rfl rfl hG); clear hG; have hsh := row_shape (Hold.has HH10.out 0 _ rfl) (by omega); obtain ⟨g3, cp3, rfl, hcp3, hg3⟩ := hsh))
          have hAt := at_any w10 (some ⟨g3, 0, none⟩) cp3 (ws ++ [liveW 0 (m + 1)]) 0 (.inl rfl) (ws_of_row (Hold.has HH10.out 0 _ rfl) (fit_snoc HW.out.fit (HL.out 0 (by omega) (by omega)).1 (HL.out 0 (by omega) (by omega)).2)) (by rw [List.length_append]; have := Hlen.out; simp; omega)
          rw [show (ws ++ [liveW 0 (m + 1)]).length = e + 1 by rw [List.length_append, Hlen.out]; rfl] at hAt
          refine hAt.mono ?_
          rintro r w11 ⟨z, rfl, hz, hb11⟩
          obtain rfl := KEY.out 0 (.inl rfl) z hz
          go_wp2_with fail
          go_ret
          exact ⟨by simp, below_step (below_step HB1.out HB.out) (below_step HH10.out.below hb11)⟩
        | true =>
          go_wp2_with (first
            | (at_builtin; refine list_append_grew rfl _ _ 22 rfl wr.heap.size 29 _ 1 8 elem_u64 (.slice (some ⟨wr.heap.size, 0, none⟩) 0 0) 0 [] rfl (Hold.has HHa.out 0 _ rfl) a0 e cap0 _ rfl HS1.out (by unfold maxLen; omega) (by omega) HHa.out.size ?_; intro v1 w8 hG; rw [Nat.zero_add, List.nil_append] at hG; have HH8 := Lib.hid (HHa.out.append 0 rfl rfl hG); clear hG; clear HS1; obtain ⟨A1, cp1, rfl⟩ := own_shape (Hold.has HH8.out 0 _ rfl))
            | (go_at_call 24; refine (lawlive_any 1 (m + 1) _ (by omega) (by omega) (by omega) (by omega)).mono ?_; rintro r w9 ⟨rfl, hb9⟩; have HH9 := Lib.hid ((HH8.out.later hb9).later (below_new (Below.refl _ _) (.cells #[.int .u64 (liveW 1 (m + 1))] 29))); clear hb9)
            | (at_builtin; refine list_append_grew rfl _ _ 22 rfl wr.heap.size 29 _ 1 8 elem_u64 (.slice A1 e cp1) e (ws.map (Value.int .u64)) rfl (Hold.has HH9.out 0 _ rfl) (some ⟨_, 0, none⟩) 1 1 [.int .u64 (liveW 1 (m + 1))] rfl (src_list w9 [.int .u64 (liveW 1 (m + 1))] 29 1 1 rfl (one_int _ _)) (by unfold maxLen; omega) (by omega) HH9.out.size ?_; intro v2 w10 hG; rw [show ws.map (Value.int .u64) ++ [.int .u64 (liveW 1 (m + 1))] = (ws ++ [liveW 1 (m + 1)]).map (Value.int .u64) by rw [List.map_append]; rfl] at hG; have HH10 := Lib.hid (HH9.out.append 0 rfl rfl hG); clear hG; have hsh := row_shape (Hold.has HH10.out 0 _ rfl) (by omega); obtain ⟨g3, cp3, rfl, hcp3, hg3⟩ := hsh))
          have hAt := at_any w10 (some ⟨g3, 0, none⟩) cp3 (ws ++ [liveW 1 (m + 1)]) 1 (.inr rfl) (ws_of_row (Hold.has HH10.out 0 _ rfl) (fit_snoc HW.out.fit (HL.out 1 (by omega) (by omega)).1 (HL.out 1 (by omega) (by omega)).2)) (by rw [List.length_append]; have := Hlen.out; simp; omega)
          rw [show (ws ++ [liveW 1 (m + 1)]).length = e + 1 by rw [List.length_append, Hlen.out]; rfl] at hAt
          refine hAt.mono ?_
          rintro r w11 ⟨z, rfl, hz, hb11⟩
          obtain rfl := KEY.out 1 (.inr rfl) z hz
          go_wp2_with fail
          go_ret
          exact ⟨by simp, below_step (below_step HB1.out HB.out) (below_step HH10.out.below hb11)⟩

end Go.Proofs.Ythncappmjdgmnaa
