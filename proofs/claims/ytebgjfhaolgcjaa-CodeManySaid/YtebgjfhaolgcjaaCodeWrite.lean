/-
  Contracts of what writes moves as bytes: a number's bytes, a move's, a script's. No condition but that numbers fit their kinds, and that there are no more than a million bytes.
-/
import Derived.Test.YtebgjfhaolgcjaaCodeCalls
import Derived.Test.YtebgjfhaolgcjaaHoldCore
import Derived.Test.YtebgjfhaolgcjaaRows2
import Derived.Deep.DeepCutAuto
namespace Go.Proofs.Ytebgjfhaolgcjaa
open Go.RowKit
set_option linter.unusedVariables false

theorem elem_u8 : ElemAt Try.prog 29 5 (.int .u8 0) 1 1 := ElemAt.mk' Try.underlying29 (by kernel_rfl) rfl (by decide)
abbrev u8 (b : Int) : Value := .int .u8 b
/-- A row of bytes that a call has made. -/
abbrev Own8 (w : World) (base : Nat) (v : Value) (L : List Int) : Prop := w.ownsRow base 5 1 v L.length (L.map u8)
/-- What is written behind others. -/
structure Wrote (base : Nat) (w w' : World) (v v' : Value) (L' : List Int) : Prop where
  own : Own8 w' base v' L'
  keep : Keep (fun k => v.ownBlock = some k) w w'
  moved : Moved w v v'
section
variable {base : Nat} {w w1 w' : World} {v v1 v' : Value} {L L1 L' : List Int}
theorem Wrote.refl (h : Own8 w base v L) : Wrote base w w v v L := ⟨h, Keep.refl _ _, moved_refl _ _⟩
theorem Wrote.trans (h : Wrote base w w1 v v1 L1) (k : Wrote base w1 w' v1 v' L') : Wrote base w w' v v' L' :=
  ⟨k.own, h.keep.then' k.keep (fun i hi => h.moved i hi), h.moved.trans k.moved h.keep.size⟩
theorem Wrote.of_grew {n : Nat} {xs : List Value} (h : Grew w w' base 5 1 v v' n xs) (hn : n = L'.length) (hx : xs = L'.map u8) : Wrote base w w' v v' L' := by
  subst hn hx
  exact ⟨h.own, Keep.of_grown h.grown (fun k hk => hk), h.moved⟩
theorem Wrote.ahead (hb : Below w.heap.size w w1) (h : Wrote base w1 w' v v' L') : Wrote base w w' v v' L' :=
  ⟨h.own, (Keep.of_below hb).trans h.keep, fun k hk => (h.moved k hk).imp id (fun hl => Nat.le_trans hb.size hl)⟩
theorem Wrote.later (h : Wrote base w w1 v v' L') (hb : Below w1.heap.size w1 w') : Wrote base w w' v v' L' :=
  ⟨(Keep.of_below (T := fun _ => False) hb).row h.own (fun _ _ h => h), h.keep.trans (Keep.of_below hb), h.moved⟩
theorem Own8.later (h : Own8 w base v L) (hb : Below w.heap.size w w') : Own8 w' base v L := (Keep.of_below (T := fun _ => False) hb).row h (fun _ _ h => h)
/-- What has come since is apart. -/
theorem Wrote.obj {b : Nat} {xs : List Value} (h : Wrote base w w' v v' L') (ho : IsObj w b xs) (hn : v.ownBlock ≠ some b) : IsObj w' b xs := ho.keep h.keep hn
theorem own8_src {w : World} {B : List Int} : Src (w.alloc (.cells (B.map u8).toArray 5)) 1 (some ⟨w.heap.size, 0, none⟩) B.length (B.map u8) :=
  src_list w (B.map u8) 5 1 B.length (by rw [List.length_map]; omega) (fun u hu => by obtain ⟨x, _, rfl⟩ := List.mem_map.1 hu; rfl)
end

theorem shr_byte (x : Int) (i : Nat) : x / 2 ^ (8 * i) % 256 = x / 256 ^ i % 256 := by
  have e : (2 : Int) ^ (8 * i) = 256 ^ i := by rw [Int.pow_mul]; rfl
  rw [e]

set_option maxHeartbeats 2000000 in
theorem appnum_any (base : Nat) (v : Value) (L : List Int) (x : Int) (n : Nat) (w : World) (h : Own8 w base v L) (hn : n ≤ 8) (x0 : 0 ≤ x) (x1 : x ≤ 18446744073709551615) (hL : L.length ≤ 1000000) (hb : base ≤ w.heap.size) :
    Calls Try.prog 14 #[v, u64 x, i64 n] w fun r w' => ∃ v', r = .returned v' ∧ Wrote base w w' v v' (L ++ le8 n x) := by
  have HW0 : Hid (Wrote base w w v v (L ++ le8 0 x)) := Lib.hid (by rw [show le8 0 x = [] from rfl, List.append_nil]; exact Wrote.refl h)
  obtain ⟨A, cp, hv⟩ := own_shape h
  have hl0 : (L ++ le8 0 x).length = L.length := by rw [show le8 0 x = [] from rfl, List.append_nil]
  have HV := Lib.hid hv
  clear h hv
  go_enter Try.func14, Try.ntmps14
  go_wp2_with fail
  go_loopw [0, 9] (fun bv iv wr => ∃ (i : Nat) (A1 : Option Addr) (cp1 : Nat), i ≤ n ∧ bv = .slice A1 (L.length + i) cp1 ∧ iv = .int .i64 i ∧ Hid (Wrote base w wr v (.slice A1 (L.length + i) cp1) (L ++ le8 i x))) (fun _ iv _ => n - (RowKit.intOf iv).toNat)
  case atStart => exact ⟨0, A, cp, Nat.zero_le _, HV.out, rfl, Lib.hid (by have h1 := HW0.out; rw [HV.out] at h1 ⊢; exact h1)⟩
  case round =>
    clear HW0 HV hl0
    obtain ⟨i, A1, cp1, hi, rfl, rfl, HW⟩ := hrel
    rcases Nat.lt_or_ge i n with hin | hin
    · have hin' : (i : Int) < (n : Int) := by omega
      have hle : (L ++ le8 i x).length = L.length + i := by rw [List.length_append, le8_len]
      have HO := Lib.hid (show wr.ownsRow base 5 1 (.slice A1 (L.length + i) cp1) (L.length + i) ((L ++ le8 i x).map u8) by have h1 := HW.out.own; rw [Own8, hle] at h1; exact h1)
      have Hs := Lib.hid (Nat.le_trans hb HW.out.keep.size)
      clear hle
      go_wp2_with (at_builtin; refine list_append_grew rfl _ _ 29 rfl base 5 _ 1 1 elem_u8 (.slice A1 (L.length + i) cp1) (L.length + i) ((L ++ le8 i x).map u8) rfl ((Keep.of_below (T := fun _ => False) (below_new (Below.refl _ _) _)).row HO.out (fun _ _ h => h)) (some ⟨_, 0, none⟩) 1 1 [u8 _] rfl (src_list wr [u8 _] 5 1 1 rfl (one_int _ _)) (by unfold maxLen; omega) (by omega) (by have := Hs.out; simp; omega) ?_; intro v' w4 hG; have HG := Lib.hid hG; clear hG)
      have hG := HG.out
      have hW4 : Wrote base wr w4 (.slice A1 (L.length + i) cp1) v' (L ++ le8 (i + 1) x) := Wrote.ahead (below_new (Below.refl _ _) _) (Wrote.of_grew hG (by rw [List.length_append, le8_len]; rfl) (by simp only [le8_snoc, ← List.append_assoc, List.map_append, shr_byte, List.map_cons, List.map_nil]))
      obtain ⟨A2, cp2, rfl⟩ := own_shape hG.own
      have HW4 := Lib.hid (HW.out.trans hW4)
      clear hG hW4 HG
      go_roundw
      case rel => exact ⟨i + 1, A2, cp2, by omega, rfl, by go_num, HW4⟩
      case measure => first | omega | (simp [RowKit.intOf]; done) | (simp [RowKit.intOf]; omega)
    · obtain rfl : i = n := by omega
      have hnn : ¬ (i : Int) < (i : Int) := by omega
      go_wp2_with fail
      go_ret
      exact ⟨_, rfl, HW.out⟩

theorem Wrote.app {base : Nat} {w w1 w2 : World} {v v1 v2 : Value} {L1 L2 B : List Int} {n : Nat} {o : Obj} {xs : List Value} (h : Wrote base w w1 v v1 L1) (g : Grew (w1.alloc o) w2 base 5 1 v1 v2 n xs) (hn : n = L1.length + B.length) (hx : xs = L1.map u8 ++ B.map u8) (hL : L2 = L1 ++ B) : Wrote base w w2 v v2 L2 := by
  subst hL
  exact h.trans (Wrote.ahead (below_new (Below.refl _ _) _) (Wrote.of_grew g (by rw [hn, List.length_append]) (by rw [hx, List.map_append])))
theorem Wrote.at' {base : Nat} {w w1 : World} {v v1 : Value} {L1 : List Int} {n : Nat} (h : Wrote base w w1 v v1 L1) (hn : L1.length = n) : w1.ownsRow base 5 1 v1 n (L1.map u8) := hn ▸ h.own
theorem own8_new {w : World} {base n : Nat} {v : Value} {xs : List Value} (h : w.ownsRow base 5 1 v n xs) (o : Obj) : (w.alloc o).ownsRow base 5 1 v n xs := (Keep.of_below (T := fun _ => False) (below_new (Below.refl _ _) _)).row h (fun _ _ h => h)

theorem src8_at (w : World) (b : Nat) (cs : List Value) (m : Nat) (hb : b = w.heap.size) (hl : cs.length = m) (h1 : ∀ u ∈ cs, u.oneCell' = true) : Src (w.alloc (.cells cs.toArray 5)) 1 (some ⟨b, 0, none⟩) m cs := by
  subst hb
  exact src_list w cs _ 1 m (by omega) h1
theorem one_u8 (L : List Int) : ∀ u ∈ L.map u8, u.oneCell' = true := fun u hu => by
  obtain ⟨x, _, rfl⟩ := List.mem_map.1 hu
  rfl

set_option maxHeartbeats 4000000 in
/-- A move's bytes behind others. -/
theorem write_any (base : Nat) (v : Value) (L : List Int) (m : CM) (w : World) (h : Own8 w base v L) (hm : m.Good) (hL : L.length ≤ 900000) (hb : base ≤ w.heap.size) :
    Calls Try.prog 10 #[m.val, v] w fun r w' => ∃ v', r = .returned v' ∧ Wrote base w w' v v' (L ++ m.enc) := by
  obtain ⟨k, who, ck, ce, x, s, n⟩ := m
  obtain ⟨hr, hx0, hx1⟩ := hm
  replace hx0 : 0 ≤ x := hx0
  replace hx1 : x ≤ 18446744073709551615 := hx1
  obtain ⟨A, cp, rfl⟩ := own_shape h
  have HB := Lib.hid (below_new (Below.refl w.heap.size w) ((⟨k, who, ck, ce, x, s, n⟩ : CM).obj 37))
  have HM := Lib.hid (IsObj.made w (⟨k, who, ck, ce, x, s, n⟩ : CM).list 37)
  have HW0 := Lib.hid (Wrote.refl (h.later HB.out))
  have hne : (Value.slice A L.length cp).ownBlock ≠ some w.heap.size := fun e => by have := (h.lt _ e).2; omega
  have HNE := Lib.hid hne
  have HS0 := Lib.hid (Nat.le_trans hb HB.out.size)
  have HO0 := Lib.hid (HW0.out.at' rfl)
  clear h hne
  rcases hr with hr | hr | hr
  · obtain ⟨h0, h1, h2, h3, h4, h5⟩ := hr
    replace h0 : k = 0 := h0
    replace h1 : 0 ≤ who := h1
    replace h2 : who < 64 := h2
    replace h4 : ce = 0 ∨ ce = 1 := h4
    replace h5 : (ck = 0 ∧ s = 0) ∨ (ck = 1 ∧ x = 0 ∧ 0 ≤ s ∧ s ≤ 255) := h5
    subst h0
    have HM0 := HM
    have HNE0 := HNE
    rcases h5 with ⟨rfl, rfl⟩ | ⟨rfl, rfl, s0, s1⟩
    · rcases h4 with rfl | rfl
      · skip
        go_enter Try.func10, Try.ntmps10
        go_upto_if 13 with (at_builtin; go_loud (refine list_append_grew rfl _ _ 29 rfl base 5 _ 1 1 elem_u8 (.slice A (L.length) cp) (L.length) ((L).map u8) rfl (own8_new HO0.out _) (some ⟨_, 0, none⟩) 1 1 [u8 0] rfl (src8_at _ _ [u8 0] 1 (by simp) rfl (one_u8 [0])) (by unfold maxLen; omega) (by omega) (by have := HS0.out; first | omega | (simp; omega) | (simp at this ⊢; omega)) ?_); intro v' w4 hG; go_loud (obtain ⟨A1, cp1, rfl⟩ := own_shape hG.own; have hW1 := HW0.out.app (B := [0]) hG rfl rfl rfl; have HM1 := Lib.hid (hW1.obj HM.out HNE.out); have HNE1 := Lib.hid (show (Value.slice A1 (L.length + 1) cp1).ownBlock ≠ some w.heap.size from fun e => (hW1.moved _ e).elim HNE.out (fun q => by simp at q; omega)); have HO1 := Lib.hid (hW1.at' (n := L.length + 1) (by simp)); have HW1 := Lib.hid hW1; have HS1 := Lib.hid (Nat.le_trans HS0.out hW1.keep.size); clear hG hW1 HM HO0 HW0 HNE HS0; have HS0 := HS1; have c0 := HM1.out.at' 0 _ rfl; have c1 := HM1.out.at' 1 _ rfl; have c2 := HM1.out.at' 2 _ rfl; have c3 := HM1.out.at' 3 _ rfl; have c4 := HM1.out.at' 4 _ rfl; have c5 := HM1.out.at' 5 _ rfl; have c6 := HM1.out.at' 6 _ rfl))
        go_upto_if 34 with (at_builtin; go_loud (refine list_append_grew rfl _ _ 29 rfl base 5 _ 1 1 elem_u8 (.slice A1 (L.length + 1) cp1) (L.length + 1) ((L ++ [0]).map u8) rfl (own8_new HO1.out _) (some ⟨_, 0, none⟩) 2 2 [u8 _, u8 0] rfl (src8_at _ _ [u8 _, u8 0] 2 (by simp) rfl (one_u8 [_, 0])) (by unfold maxLen; omega) (by omega) (by have := HS0.out; first | omega | (simp; omega) | (simp at this ⊢; omega)) ?_); intro v' w4 hG; go_loud (obtain ⟨A2, cp2, rfl⟩ := own_shape hG.own; have hW2 := HW1.out.app (B := [who, 0]) hG (by simp) (by first | rfl | (simp; done) | (simp; omega)) rfl; have HM2 := Lib.hid (hW2.obj HM0.out HNE0.out); have HO2 := Lib.hid (hW2.at' (n := L.length + 1 + 2) (by simp)); have HW2 := Lib.hid hW2; have HS2 := Lib.hid (Nat.le_trans (Nat.le_trans hb HB.out.size) hW2.keep.size); clear hG hW2 HM1 HO1 HW1 HNE1 HS0 HS1 c0 c1 c2 c3 c4 c5 c6; have HS0 := HS2; have c0 := HM2.out.at' 0 _ rfl; have c1 := HM2.out.at' 1 _ rfl; have c2 := HM2.out.at' 2 _ rfl; have c3 := HM2.out.at' 3 _ rfl; have c4 := HM2.out.at' 4 _ rfl; have c5 := HM2.out.at' 5 _ rfl; have c6 := HM2.out.at' 6 _ rfl))
        go_wp2_with fail
        refine (appnum_any base _ (L ++ [0] ++ [who, 0]) x 8 _ HW2.out.own (by decide) (by omega) (by omega) (by simp; omega) HS2.out).mono ?_
        rintro r w5 ⟨v5, rfl, hw⟩
        have HW5 := Lib.hid (HW2.out.trans hw)
        clear hw
        go_wp2_with fail
        go_ret
        exact ⟨_, rfl, Wrote.ahead HB.out (by have h := HW5.out; rw [List.append_assoc, List.append_assoc] at h; exact h)⟩
      · skip
        go_enter Try.func10, Try.ntmps10
        go_upto_if 13 with (at_builtin; go_loud (refine list_append_grew rfl _ _ 29 rfl base 5 _ 1 1 elem_u8 (.slice A (L.length) cp) (L.length) ((L).map u8) rfl (own8_new HO0.out _) (some ⟨_, 0, none⟩) 1 1 [u8 0] rfl (src8_at _ _ [u8 0] 1 (by simp) rfl (one_u8 [0])) (by unfold maxLen; omega) (by omega) (by have := HS0.out; first | omega | (simp; omega) | (simp at this ⊢; omega)) ?_); intro v' w4 hG; go_loud (obtain ⟨A1, cp1, rfl⟩ := own_shape hG.own; have hW1 := HW0.out.app (B := [0]) hG rfl rfl rfl; have HM1 := Lib.hid (hW1.obj HM.out HNE.out); have HNE1 := Lib.hid (show (Value.slice A1 (L.length + 1) cp1).ownBlock ≠ some w.heap.size from fun e => (hW1.moved _ e).elim HNE.out (fun q => by simp at q; omega)); have HO1 := Lib.hid (hW1.at' (n := L.length + 1) (by simp)); have HW1 := Lib.hid hW1; have HS1 := Lib.hid (Nat.le_trans HS0.out hW1.keep.size); clear hG hW1 HM HO0 HW0 HNE HS0; have HS0 := HS1; have c0 := HM1.out.at' 0 _ rfl; have c1 := HM1.out.at' 1 _ rfl; have c2 := HM1.out.at' 2 _ rfl; have c3 := HM1.out.at' 3 _ rfl; have c4 := HM1.out.at' 4 _ rfl; have c5 := HM1.out.at' 5 _ rfl; have c6 := HM1.out.at' 6 _ rfl))
        go_upto_if 34 with (at_builtin; go_loud (refine list_append_grew rfl _ _ 29 rfl base 5 _ 1 1 elem_u8 (.slice A1 (L.length + 1) cp1) (L.length + 1) ((L ++ [0]).map u8) rfl (own8_new HO1.out _) (some ⟨_, 0, none⟩) 2 2 [u8 _, u8 2] rfl (src8_at _ _ [u8 _, u8 2] 2 (by simp) rfl (one_u8 [_, 2])) (by unfold maxLen; omega) (by omega) (by have := HS0.out; first | omega | (simp; omega) | (simp at this ⊢; omega)) ?_); intro v' w4 hG; go_loud (obtain ⟨A2, cp2, rfl⟩ := own_shape hG.own; have hW2 := HW1.out.app (B := [who, 2]) hG (by simp) (by first | rfl | (simp; done) | (simp; omega)) rfl; have HM2 := Lib.hid (hW2.obj HM0.out HNE0.out); have HO2 := Lib.hid (hW2.at' (n := L.length + 1 + 2) (by simp)); have HW2 := Lib.hid hW2; have HS2 := Lib.hid (Nat.le_trans (Nat.le_trans hb HB.out.size) hW2.keep.size); clear hG hW2 HM1 HO1 HW1 HNE1 HS0 HS1 c0 c1 c2 c3 c4 c5 c6; have HS0 := HS2; have c0 := HM2.out.at' 0 _ rfl; have c1 := HM2.out.at' 1 _ rfl; have c2 := HM2.out.at' 2 _ rfl; have c3 := HM2.out.at' 3 _ rfl; have c4 := HM2.out.at' 4 _ rfl; have c5 := HM2.out.at' 5 _ rfl; have c6 := HM2.out.at' 6 _ rfl))
        go_wp2_with fail
        refine (appnum_any base _ (L ++ [0] ++ [who, 2]) x 8 _ HW2.out.own (by decide) (by omega) (by omega) (by simp; omega) HS2.out).mono ?_
        rintro r w5 ⟨v5, rfl, hw⟩
        have HW5 := Lib.hid (HW2.out.trans hw)
        clear hw
        go_wp2_with fail
        go_ret
        exact ⟨_, rfl, Wrote.ahead HB.out (by have h := HW5.out; rw [List.append_assoc, List.append_assoc] at h; exact h)⟩
    · rcases h4 with rfl | rfl
      · skip
        go_enter Try.func10, Try.ntmps10
        go_upto_if 13 with (at_builtin; go_loud (refine list_append_grew rfl _ _ 29 rfl base 5 _ 1 1 elem_u8 (.slice A (L.length) cp) (L.length) ((L).map u8) rfl (own8_new HO0.out _) (some ⟨_, 0, none⟩) 1 1 [u8 0] rfl (src8_at _ _ [u8 0] 1 (by simp) rfl (one_u8 [0])) (by unfold maxLen; omega) (by omega) (by have := HS0.out; first | omega | (simp; omega) | (simp at this ⊢; omega)) ?_); intro v' w4 hG; go_loud (obtain ⟨A1, cp1, rfl⟩ := own_shape hG.own; have hW1 := HW0.out.app (B := [0]) hG rfl rfl rfl; have HM1 := Lib.hid (hW1.obj HM.out HNE.out); have HNE1 := Lib.hid (show (Value.slice A1 (L.length + 1) cp1).ownBlock ≠ some w.heap.size from fun e => (hW1.moved _ e).elim HNE.out (fun q => by simp at q; omega)); have HO1 := Lib.hid (hW1.at' (n := L.length + 1) (by simp)); have HW1 := Lib.hid hW1; have HS1 := Lib.hid (Nat.le_trans HS0.out hW1.keep.size); clear hG hW1 HM HO0 HW0 HNE HS0; have HS0 := HS1; have c0 := HM1.out.at' 0 _ rfl; have c1 := HM1.out.at' 1 _ rfl; have c2 := HM1.out.at' 2 _ rfl; have c3 := HM1.out.at' 3 _ rfl; have c4 := HM1.out.at' 4 _ rfl; have c5 := HM1.out.at' 5 _ rfl; have c6 := HM1.out.at' 6 _ rfl))
        go_upto_if 34 with (at_builtin; go_loud (refine list_append_grew rfl _ _ 29 rfl base 5 _ 1 1 elem_u8 (.slice A1 (L.length + 1) cp1) (L.length + 1) ((L ++ [0]).map u8) rfl (own8_new HO1.out _) (some ⟨_, 0, none⟩) 2 2 [u8 _, u8 1] rfl (src8_at _ _ [u8 _, u8 1] 2 (by simp) rfl (one_u8 [_, 1])) (by unfold maxLen; omega) (by omega) (by have := HS0.out; first | omega | (simp; omega) | (simp at this ⊢; omega)) ?_); intro v' w4 hG; go_loud (obtain ⟨A2, cp2, rfl⟩ := own_shape hG.own; have hW2 := HW1.out.app (B := [who, 1]) hG (by simp) (by first | rfl | (simp; done) | (simp; omega)) rfl; have HM2 := Lib.hid (hW2.obj HM0.out HNE0.out); have HO2 := Lib.hid (hW2.at' (n := L.length + 1 + 2) (by simp)); have HW2 := Lib.hid hW2; have HS2 := Lib.hid (Nat.le_trans (Nat.le_trans hb HB.out.size) hW2.keep.size); clear hG hW2 HM1 HO1 HW1 HNE1 HS0 HS1 c0 c1 c2 c3 c4 c5 c6; have HS0 := HS2; have c0 := HM2.out.at' 0 _ rfl; have c1 := HM2.out.at' 1 _ rfl; have c2 := HM2.out.at' 2 _ rfl; have c3 := HM2.out.at' 3 _ rfl; have c4 := HM2.out.at' 4 _ rfl; have c5 := HM2.out.at' 5 _ rfl; have c6 := HM2.out.at' 6 _ rfl))
        go_wp2_with (at_builtin; go_loud (refine list_append_grew rfl _ _ 29 rfl base 5 _ 1 1 elem_u8 (.slice A2 (L.length + 1 + 2) cp2) (L.length + 1 + 2) ((L ++ [0] ++ [who, 1]).map u8) rfl (own8_new HO2.out _) (some ⟨_, 0, none⟩) 1 1 [u8 _] rfl (src8_at _ _ [u8 _] 1 (by simp) rfl (one_u8 [_])) (by unfold maxLen; omega) (by omega) (by have := HS0.out; first | omega | (simp; omega) | (simp at this ⊢; omega)) ?_); intro v' w4 hG; go_loud (have HW3 := Lib.hid (HW2.out.app (B := [s]) hG (by simp) (by first | rfl | (simp; done) | (simp; omega)) rfl); clear hG HW2))
        go_ret
        exact ⟨_, rfl, Wrote.ahead HB.out (by have h := HW3.out; rw [List.append_assoc, List.append_assoc] at h; exact h)⟩
      · skip
        go_enter Try.func10, Try.ntmps10
        go_upto_if 13 with (at_builtin; go_loud (refine list_append_grew rfl _ _ 29 rfl base 5 _ 1 1 elem_u8 (.slice A (L.length) cp) (L.length) ((L).map u8) rfl (own8_new HO0.out _) (some ⟨_, 0, none⟩) 1 1 [u8 0] rfl (src8_at _ _ [u8 0] 1 (by simp) rfl (one_u8 [0])) (by unfold maxLen; omega) (by omega) (by have := HS0.out; first | omega | (simp; omega) | (simp at this ⊢; omega)) ?_); intro v' w4 hG; go_loud (obtain ⟨A1, cp1, rfl⟩ := own_shape hG.own; have hW1 := HW0.out.app (B := [0]) hG rfl rfl rfl; have HM1 := Lib.hid (hW1.obj HM.out HNE.out); have HNE1 := Lib.hid (show (Value.slice A1 (L.length + 1) cp1).ownBlock ≠ some w.heap.size from fun e => (hW1.moved _ e).elim HNE.out (fun q => by simp at q; omega)); have HO1 := Lib.hid (hW1.at' (n := L.length + 1) (by simp)); have HW1 := Lib.hid hW1; have HS1 := Lib.hid (Nat.le_trans HS0.out hW1.keep.size); clear hG hW1 HM HO0 HW0 HNE HS0; have HS0 := HS1; have c0 := HM1.out.at' 0 _ rfl; have c1 := HM1.out.at' 1 _ rfl; have c2 := HM1.out.at' 2 _ rfl; have c3 := HM1.out.at' 3 _ rfl; have c4 := HM1.out.at' 4 _ rfl; have c5 := HM1.out.at' 5 _ rfl; have c6 := HM1.out.at' 6 _ rfl))
        go_upto_if 34 with (at_builtin; go_loud (refine list_append_grew rfl _ _ 29 rfl base 5 _ 1 1 elem_u8 (.slice A1 (L.length + 1) cp1) (L.length + 1) ((L ++ [0]).map u8) rfl (own8_new HO1.out _) (some ⟨_, 0, none⟩) 2 2 [u8 _, u8 3] rfl (src8_at _ _ [u8 _, u8 3] 2 (by simp) rfl (one_u8 [_, 3])) (by unfold maxLen; omega) (by omega) (by have := HS0.out; first | omega | (simp; omega) | (simp at this ⊢; omega)) ?_); intro v' w4 hG; go_loud (obtain ⟨A2, cp2, rfl⟩ := own_shape hG.own; have hW2 := HW1.out.app (B := [who, 3]) hG (by simp) (by first | rfl | (simp; done) | (simp; omega)) rfl; have HM2 := Lib.hid (hW2.obj HM0.out HNE0.out); have HO2 := Lib.hid (hW2.at' (n := L.length + 1 + 2) (by simp)); have HW2 := Lib.hid hW2; have HS2 := Lib.hid (Nat.le_trans (Nat.le_trans hb HB.out.size) hW2.keep.size); clear hG hW2 HM1 HO1 HW1 HNE1 HS0 HS1 c0 c1 c2 c3 c4 c5 c6; have HS0 := HS2; have c0 := HM2.out.at' 0 _ rfl; have c1 := HM2.out.at' 1 _ rfl; have c2 := HM2.out.at' 2 _ rfl; have c3 := HM2.out.at' 3 _ rfl; have c4 := HM2.out.at' 4 _ rfl; have c5 := HM2.out.at' 5 _ rfl; have c6 := HM2.out.at' 6 _ rfl))
        go_wp2_with (at_builtin; go_loud (refine list_append_grew rfl _ _ 29 rfl base 5 _ 1 1 elem_u8 (.slice A2 (L.length + 1 + 2) cp2) (L.length + 1 + 2) ((L ++ [0] ++ [who, 3]).map u8) rfl (own8_new HO2.out _) (some ⟨_, 0, none⟩) 1 1 [u8 _] rfl (src8_at _ _ [u8 _] 1 (by simp) rfl (one_u8 [_])) (by unfold maxLen; omega) (by omega) (by have := HS0.out; first | omega | (simp; omega) | (simp at this ⊢; omega)) ?_); intro v' w4 hG; go_loud (have HW3 := Lib.hid (HW2.out.app (B := [s]) hG (by simp) (by first | rfl | (simp; done) | (simp; omega)) rfl); clear hG HW2))
        go_ret
        exact ⟨_, rfl, Wrote.ahead HB.out (by have h := HW3.out; rw [List.append_assoc, List.append_assoc] at h; exact h)⟩
  · obtain ⟨h0, h1, h2, h3, h4, h5, h6, h7⟩ := hr
    replace h0 : k = 1 := h0
    replace h1 : 0 ≤ who := h1
    replace h2 : who < 64 := h2
    subst h0
    go_enter Try.func10, Try.ntmps10
    go_upto_if 13 with (at_builtin; go_loud (refine list_append_grew rfl _ _ 29 rfl base 5 _ 1 1 elem_u8 (.slice A (L.length) cp) (L.length) ((L).map u8) rfl (own8_new HO0.out _) (some ⟨_, 0, none⟩) 1 1 [u8 1] rfl (src8_at _ _ [u8 1] 1 (by simp) rfl (one_u8 [1])) (by unfold maxLen; omega) (by omega) (by have := HS0.out; first | omega | (simp; omega) | (simp at this ⊢; omega)) ?_); intro v' w4 hG; go_loud (obtain ⟨A1, cp1, rfl⟩ := own_shape hG.own; have hW1 := HW0.out.app (B := [1]) hG rfl rfl rfl; have HM1 := Lib.hid (hW1.obj HM.out HNE.out); have HNE1 := Lib.hid (show (Value.slice A1 (L.length + 1) cp1).ownBlock ≠ some w.heap.size from fun e => (hW1.moved _ e).elim HNE.out (fun q => by simp at q; omega)); have HO1 := Lib.hid (hW1.at' (n := L.length + 1) (by simp)); have HW1 := Lib.hid hW1; have HS1 := Lib.hid (Nat.le_trans HS0.out hW1.keep.size); clear hG hW1 HM HO0 HW0 HNE HS0; have HS0 := HS1; have c0 := HM1.out.at' 0 _ rfl; have c1 := HM1.out.at' 1 _ rfl; have c2 := HM1.out.at' 2 _ rfl; have c3 := HM1.out.at' 3 _ rfl; have c4 := HM1.out.at' 4 _ rfl; have c5 := HM1.out.at' 5 _ rfl; have c6 := HM1.out.at' 6 _ rfl))
    go_wp2_with (at_builtin; go_loud (refine list_append_grew rfl _ _ 29 rfl base 5 _ 1 1 elem_u8 (.slice A1 (L.length + 1) cp1) (L.length + 1) ((L ++ [1]).map u8) rfl (own8_new HO1.out _) (some ⟨_, 0, none⟩) 1 1 [u8 _] rfl (src8_at _ _ [u8 _] 1 (by simp) rfl (one_u8 [_])) (by unfold maxLen; omega) (by omega) (by have := HS0.out; first | omega | (simp; omega) | (simp at this ⊢; omega)) ?_); intro v' w4 hG; go_loud (have hW2 := Lib.hid (HW1.out.app (B := [who]) hG (by simp) (by first | rfl | (simp; done) | (simp; omega)) rfl); clear hG HW1))
    go_ret
    exact ⟨_, rfl, Wrote.ahead HB.out (by have h := hW2.out; rw [List.append_assoc] at h; exact h)⟩
  · obtain ⟨h0, h1, h2, h3, h4, h5, h6, h7⟩ := hr
    replace h0 : k = 2 := h0
    replace h6 : 1 ≤ n := h6
    replace h7 : n ≤ 65535 := h7
    subst h0
    have hn64 : IntKind.u64.wrap n = n := by rw [IntKind.wrap_u64]; omega
    go_enter Try.func10, Try.ntmps10
    go_upto_if 13 with (at_builtin; go_loud (refine list_append_grew rfl _ _ 29 rfl base 5 _ 1 1 elem_u8 (.slice A (L.length) cp) (L.length) ((L).map u8) rfl (own8_new HO0.out _) (some ⟨_, 0, none⟩) 1 1 [u8 2] rfl (src8_at _ _ [u8 2] 1 (by simp) rfl (one_u8 [2])) (by unfold maxLen; omega) (by omega) (by have := HS0.out; first | omega | (simp; omega) | (simp at this ⊢; omega)) ?_); intro v' w4 hG; go_loud (obtain ⟨A1, cp1, rfl⟩ := own_shape hG.own; have hW1 := HW0.out.app (B := [2]) hG rfl rfl rfl; have HM1 := Lib.hid (hW1.obj HM.out HNE.out); have HNE1 := Lib.hid (show (Value.slice A1 (L.length + 1) cp1).ownBlock ≠ some w.heap.size from fun e => (hW1.moved _ e).elim HNE.out (fun q => by simp at q; omega)); have HO1 := Lib.hid (hW1.at' (n := L.length + 1) (by simp)); have HW1 := Lib.hid hW1; have HS1 := Lib.hid (Nat.le_trans HS0.out hW1.keep.size); clear hG hW1 HM HO0 HW0 HNE HS0; have HS0 := HS1; have c0 := HM1.out.at' 0 _ rfl; have c1 := HM1.out.at' 1 _ rfl; have c2 := HM1.out.at' 2 _ rfl; have c3 := HM1.out.at' 3 _ rfl; have c4 := HM1.out.at' 4 _ rfl; have c5 := HM1.out.at' 5 _ rfl; have c6 := HM1.out.at' 6 _ rfl))
    go_wp2_with fail
    refine (appnum_any base _ (L ++ [2]) n 2 _ HW1.out.own (by decide) (by omega) (by omega) (by simp; omega) HS1.out).mono ?_
    rintro r w5 ⟨v5, rfl, hw⟩
    have HW5 := Lib.hid (HW1.out.trans hw)
    clear hw
    go_wp2_with fail
    go_ret
    exact ⟨_, rfl, Wrote.ahead HB.out (by have h := HW5.out; rw [List.append_assoc] at h; exact h)⟩
end Go.Proofs.Ytebgjfhaolgcjaa
