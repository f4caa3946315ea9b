/-
  MemBacks answers true for every number and list of acts, and leaves all memory that was there as it was. No condition.
-/
import Derived.Test.YteokinaneilgjaaWalkMemApart
namespace Go.Proofs.Yteokinaneilgjaa
open Go.RowKit
set_option linter.unusedVariables false

theorem ac_num {a : Ac} {C : List Int} {L : List Ev} (ha : a.ok) (hC : ∀ x ∈ C, 0 ≤ x ∧ x ≤ 18446744073709551615) (h : ∀ e ∈ L, e.num) : ∀ e ∈ a.log' C L, e.num := by
  unfold Ac.log'
  by_cases hin : 0 ≤ a.cell ∧ a.cell < C.length
  · rw [if_pos hin]
    intro e he
    rcases List.mem_append.1 he with he | he
    · exact h e he
    · obtain rfl := List.mem_singleton.1 he
      have hy : 0 ≤ C.getD a.cell.toNat 0 ∧ C.getD a.cell.toNat 0 ≤ 18446744073709551615 := by
        have hl : a.cell.toNat < C.length := by omega
        rw [List.getD_eq_getElem?_getD, List.getElem?_eq_getElem hl]
        exact hC _ (List.getElem_mem hl)
      have ha3 := add64_range (C.getD a.cell.toNat 0) a.x
      obtain ⟨_, _, x0, x1⟩ := ha
      generalize C.getD a.cell.toNat 0 = y at *
      unfold Ac.ev Ev.num
      repeat' split
      all_goals simp only
      all_goals omega
  · rw [if_neg hin]
    exact h

set_option maxRecDepth 100000 in
set_option maxHeartbeats 20000000 in
theorem walk_MemBacks (a0 : Int) (a1 : Option Addr) (len1 cap1 : Nat) (w : World) (w0 : (Lit.int .i64 a0).wf = true) (w1 : IsRows w [.inl .i64, .inl .i64, .inl .i64, .inl .u64, .inl .u64] a1 len1 cap1) :
    Calls Try.prog 4 #[.int .i64 a0, .slice a1 len1 cap1] w fun e w' => e = .returned (.bool true) ∧ Below w.heap.size w w' := by
  clear w0
  by_cases hbig : 60 < len1
  · have hbig' : (60 : Int) < (len1 : Int) := by omega
    clear w1
    go_enter Try.func4, Try.ntmps4
    go_wp2_with fail
    refine (head3_any _).mono ?_
    rintro e w1 ⟨rfl, hb1⟩
    go_wp2_with fail
    go_ret
    exact ⟨rfl, hb1⟩
  · have p0 : decide ((60 : Int) < (len1 : Int)) = false := decide_eq_false (by omega)
    have W1 := Lib.hid w1
    obtain ⟨m, hm, hm15⟩ : ∃ m : Nat, bits .and .i64 a0 15 = (m : Int) ∧ m ≤ 15 := ⟨(a0 % 16).toNat, by rw [show (15 : Int) = ((15 : Nat) : Int) from rfl, and_i64 a0 15 4 rfl (by decide)]; omega, by omega⟩
    clear w1
    go_enter Try.func4, Try.ntmps4
    go_wp2_with fail
    refine (head3_any _).mono ?_
    rintro e w1 ⟨rfl, hb1⟩
    go_wp2_with fail
    refine (new_nat w.heap.size m _ _ hb1.size (by omega) (.inl rfl)).mono ?_
    rintro r w2 ⟨p, c, rfl, hM2, hb2, hp, hc⟩
    have hO := Own.made hb1 hM2 hb2
    clear hM2 hb2 hb1 hp hc
    go_wp2_with fail
    go_loopw [22] (fun i wr => ∃ (n : Nat) (v : Value) (C : List Int) (L : List Ev), n ≤ len1 ∧ i = .int .i64 n ∧ Own w wr p c v C L ∧ Hid (C.length = m) ∧ Hid (Plays L (List.replicate m 0) C) ∧ Hid (L.length ≤ n) ∧ Hid (∀ e ∈ L, e.num)) (fun i _ => len1 - (intOf i).toNat)
    case atStart => exact ⟨0, _, _, _, by omega, rfl, hO, List.length_replicate, rfl, Nat.le_refl _, (fun e he => by cases he)⟩
    case round =>
      clear hO
      obtain ⟨n, v, C, L, hn, rfl, hO, hC, hP, hL, hN⟩ := hrel
      rcases Nat.lt_or_ge n len1 with hlt | hge
      · obtain ⟨b, off, X, rfl, hcap, hX⟩ := rows_acts W1.out (by omega)
        obtain ⟨hx, hok⟩ := hX n hlt
        have hl := hx.lt
        have hx' := hx.later hO.below hl
        obtain ⟨c0, c1, c2', c3, c4, _⟩ := hx'
        clear hX hx
        generalize X n = a at *
        have Hok := Lib.hid hok
        clear hok
        obtain ⟨who, op, cell, old, x⟩ := a
        simp only at c0 c1 c2' c3 c4
        have HO1 : Hid (Own w (wr.alloc (.cells #[.int .i64 who, .int .i64 op, .int .i64 cell, .int .u64 old, .int .u64 x] 30)) p c v C L) := hO.later (below_new (Below.refl _ _) _)
        have HN5 := Lib.hid (ac_num Hok.out hO.mem.num hN.out)
        clear hO
        go_wp2_with fail
        refine (do_any w.heap.size _ p c v C L _ HO1.out.mem Hok.out HO1.out.size (by have := hL.out; omega)).mono ?_
        rintro r w5 ⟨rfl, v5, hT5⟩
        have HO5 := Lib.hid (HO1.out.step hT5)
        have HP5 := Lib.hid (ac_plays (a := ⟨who, op, cell, old, x⟩) hP.out)
        have HL5 : Hid ((Ac.log' ⟨who, op, cell, old, x⟩ C L).length ≤ n + 1) := Nat.le_trans (Ac.log_length _ _ _) (Nat.succ_le_succ hL.out)
        have HC5 : Hid ((Ac.cells' ⟨who, op, cell, old, x⟩ C).length = m) := (Ac.length _ _).trans hC.out
        clear hT5
        go_wp2_with fail
        go_roundw
        case rel => exact ⟨n + 1, v5, _, _, by omega, by go_num, HO5.out, HC5.out, HP5.out, HL5.out, HN5.out⟩
        case measure => simp [intOf]; omega
      · obtain rfl : n = len1 := by omega
        have HO := Lib.hid hO
        clear hO
        go_wp2_with fail
        refine (log_any _ _ p c _ _ _ HO.out.mem (by have := hL.out; omega)).mono ?_
        rintro r w3 ⟨lv, rfl, ho3, hb3⟩
        obtain ⟨A3, cap3, rfl⟩ := own_shape ho3
        have HA3 : Hid (AtE w3 A3 L) := AtE.row ho3
        have HO3 := Lib.hid (HO.out.later hb3)
        clear ho3 hb3
        go_wp2_with fail
        refine (back_any _ m A3 _ cap3 L (by omega) HA3.out hN.out rfl (by have := hL.out; omega)).mono ?_
        rintro r w4 ⟨p4, c4, v4, C4, L4, ok4, rfl, hB⟩
        have hyes : ok4 = true := by
          cases ok4
          · exact absurd ⟨C, hP.out⟩ (hB.no rfl)
          · rfl
        subst hyes
        obtain ⟨hP4, rfl⟩ := hB.yes rfl
        obtain rfl := plays_one hP.out hP4
        have HO4 := Lib.hid (HO3.out.later hB.below)
        have HM4 := Lib.hid hB.mem
        clear hB hP4
        go_wp2_with fail
        refine (len_any _ _ p4 c4 _ _ _ HM4.out).mono ?_
        rintro r w' ⟨rfl, rfl⟩
        rw [hC.out]
        go_wp2_with fail
        refine (log_any _ _ p4 c4 _ _ _ HM4.out (by have := hL.out; omega)).mono ?_
        rintro r w5 ⟨lv, rfl, ho5, hb5⟩
        obtain ⟨A5, cap5, rfl⟩ := own_shape ho5
        have HA5 : Hid (AtE w5 A5 L4) := AtE.row ho5
        have HO5 := Lib.hid (HO4.out.later hb5)
        have HM5 := Lib.hid (HM4.out.later hb5)
        clear ho5 hb5
        go_wp2_with fail
        refine (log_any _ _ p c _ _ _ HO5.out.mem (by have := hL.out; omega)).mono ?_
        rintro r w6 ⟨lv, rfl, ho6, hb6⟩
        obtain ⟨A6, cap6, rfl⟩ := own_shape ho6
        have HA6 : Hid (AtE w6 A6 L4) := AtE.row ho6
        have HA56 := Lib.hid (HA5.out.later hb6)
        have HO6 := Lib.hid (HO5.out.later hb6)
        have HM6 := Lib.hid (HM5.out.later hb6)
        clear ho6 hb6
        go_wp2_with fail
        refine (same_yes _ _ _ _ _ L4 HA56.out HA6.out (by have := hL.out; omega)).mono ?_
        rintro r w7 ⟨rfl, hb7⟩
        have HO7 := Lib.hid (HO6.out.later hb7)
        have HM7 := Lib.hid (HM6.out.later hb7)
        have Hget : Hid (∀ (k : Nat), k < m → C[k]? = some (C.getD k 0)) := fun k hk => by
          have := hC.out
          rw [List.getD_eq_getElem?_getD, List.getElem?_eq_getElem (by omega)]
          rfl
        clear hb7
        go_wp2_with fail
        go_loop [10] (fun i => ∃ k : Nat, k ≤ m ∧ i = .int .i64 k) (fun i => m - (intOf i).toNat)
        case atStart => exact ⟨0, by omega, rfl⟩
        case round =>
          obtain ⟨k, hk, rfl⟩ := hrel
          rcases Nat.lt_or_ge k m with hlt | hge
          · have hlt' : (k : Int) < (m : Int) := by omega
            have hz := Hget.out k hlt
            have Hz := Lib.hid hz
            clear hz
            go_wp2_with fail
            refine (peek_in _ _ p4 c4 _ _ _ k _ HM7.out Hz.out).mono ?_
            rintro r w' ⟨rfl, rfl⟩
            go_wp2_with fail
            refine (peek_in _ _ p c _ _ _ k _ HO7.out.mem Hz.out).mono ?_
            rintro r w' ⟨rfl, rfl⟩
            go_wp2
            go_round
            case rel => exact ⟨k + 1, by omega, by go_num⟩
            case measure => simp [intOf]; omega
          · obtain rfl : k = m := by omega
            go_wp2
            go_ret
            exact ⟨rfl, HO7.out.below⟩

end Go.Proofs.Yteokinaneilgjaa
