/-
  HistMost answers true for all lists of deeds, and leaves all memory that was there as it was. No condition.
-/
import Derived.Test.YtkadjpllappalaaHistHead
namespace Go.Proofs.Ytkadjpllappalaa
open Go.RowKit
set_option linter.unusedVariables false

theorem at_step {l : List Dd} {k : Nat} {o : Dd} (h : l[k]? = some o) (d : Dd) : (l.take (k + 1)).countP (dAt d) = (l.take k).countP (dAt d) + if dAt d o = true then 1 else 0 := by
  rw [List.take_add_one, h, List.countP_append]
  simp [List.countP_cons]
theorem dMost_next {l : List Dd} {i : Nat} {d : Dd} (h : l[i]? = some d) : dMost l (i + 1) = max (dMost l i) (dUnder l d) := by
  rw [dMost, h]

set_option maxRecDepth 100000 in
set_option maxHeartbeats 4000000 in
theorem walk_HistMost (a0 : Option Addr) (len0 cap0 : Nat) (w : World) (w0 : IsRows w [.inl .i64, .inl .i64, .inl .i64, .inl .u64, .inl .i64, .inl .i64, .inl .i64, .inr true, .inl .u64, .inl .i64, .inl .i64] a0 len0 cap0) :
    Calls Try.prog 5 #[.slice a0 len0 cap0] w fun e w' => e = .returned (.bool true) ∧ Below w.heap.size w w' := by
  rcases Nat.lt_or_ge 60 len0 with hbig | hs
  · have hbig' : (60 : Int) < (len0 : Int) := by omega
    clear w0
    go_enter Try.func5, Try.ntmps5
    go_wp2_with fail
    refine (head14_any _).mono ?_
    rintro e w1 ⟨rfl, hb1⟩
    go_wp2_with fail
    go_ret
    exact ⟨rfl, hb1⟩
  have p0 : decide ((60 : Int) < (len0 : Int)) = false := decide_eq_false (by omega)
  obtain ⟨tb, off, l, hL⟩ := rows_dds w0
  have HL := Lib.hid hL
  clear w0 hL
  go_enter Try.func5, Try.ntmps5
  go_wp2_with fail
  refine (head14_any _).mono ?_
  rintro e w1 ⟨rfl, hb1⟩
  have HB1 := Lib.hid hb1
  clear hb1
  go_wp2_with fail
  go_loopw [3, 16] (fun mv iw wr => ∃ i : Nat, i ≤ len0 ∧ mv = .int .i64 (dMost l i) ∧ iw = .int .i64 i ∧ Hid (Below w.heap.size w wr)) (fun _ iw _ => len0 - (intOf iw).toNat)
  case atStart => exact ⟨0, Nat.zero_le _, rfl, rfl, HB1⟩
  case round =>
    clear HB1
    obtain ⟨i, hi, rfl, rfl, HB⟩ := hrel
    rcases Nat.lt_or_ge i len0 with hil | hil
    · have hil' : (i : Int) < (len0 : Int) := by omega
      obtain ⟨d, hd⟩ : ∃ d, l[i]? = some d := ⟨_, List.getElem?_eq_getElem (by rw [HL.out.1]; exact hil)⟩
      obtain ⟨rfl, htb⟩ := HL.out.2.2.1 (by omega)
      obtain ⟨hA, hF⟩ := (HL.out.later HB.out (fun _ => htb)).2.2.2 i d hd
      have hcap := HL.out.2.1
      have hnx := dMost_next hd
      have hle := dMost_le l i
      rw [HL.out.1] at hle
      have HD := Lib.hid hd
      have HNX := Lib.hid hnx
      generalize hM : dMost l i = M at hle HNX ⊢
      clear hM hnx hd
      obtain ⟨c0, c1, c2, c3, c4, c5, c6, c7, c8, c9, c10⟩ := hA
      go_wp2_with fail
      have HX0 := Lib.hid (AtBd.made wr d 32)
      have HB0 := Lib.hid (below_new HB.out (d.obj 32))
      generalize wr.alloc (d.obj 32) = W1 at HX0 HB0 ⊢
      generalize wr.heap.size = B at HX0 ⊢
      clear c0 c1 c2 c3 c4 c5 c6 c7 c8 c9 c10
      go_loopw [6, 22] (fun nv kv wq => ∃ k : Nat, k ≤ len0 ∧ nv = .int .i64 ((l.take k).countP (dAt d)) ∧ kv = .int .i64 k ∧ Hid (Below W1.heap.size W1 wq)) (fun _ kv _ => len0 - (intOf kv).toNat)
      case atStart => exact ⟨0, Nat.zero_le _, rfl, rfl, Below.refl _ _⟩
      case round =>
        obtain ⟨k, hk, rfl, rfl, HW⟩ := hrel
        obtain ⟨g0, g1, g2, g3, g4, g5, g6, g7, g8, g9, g10⟩ := HX0.out.later HW.out
        rcases Nat.lt_or_ge k len0 with hkl | hkl
        · have hkl' : (k : Int) < (len0 : Int) := by omega
          obtain ⟨o, ho⟩ : ∃ o, l[k]? = some o := ⟨_, List.getElem?_eq_getElem (by rw [HL.out.1]; exact hkl)⟩
          obtain ⟨hA, _⟩ := (HL.out.later (below_step HB0.out HW.out) (fun _ => htb)).2.2.2 k o ho
          obtain ⟨c0, c1, c2, c3, c4, c5, c6, c7, c8, c9, c10⟩ := hA
          have HO := Lib.hid ho
          have hct : (l.take k).countP (dAt d) ≤ k := Nat.le_trans List.countP_le_length (by rw [List.length_take]; omega)
          clear ho
          have hbx : B < wr.heap.size := World.block_lt_of_cell? _ _ g0
          rcases (by omega : ¬ o.fr ≤ d.fr ∨ (o.fr ≤ d.fr ∧ o.till < 0) ∨ (o.fr ≤ d.fr ∧ ¬ o.till < 0 ∧ d.fr ≤ o.till) ∨ (o.fr ≤ d.fr ∧ ¬ o.till < 0 ∧ ¬ d.fr ≤ o.till)) with hc | hc | hc | hc
          · have HC : Hid (dAt d o = false) := decide_eq_false (by omega)
            have p1 : ¬ o.fr ≤ d.fr := hc
            clear hc
            go_wp2_with fail
            go_roundw
            case rel => exact ⟨k + 1, by omega, congrArg (Value.int .i64) (by have := at_step HO.out d; rw [HC.out] at this; simp only [Bool.false_eq_true, if_false] at this; omega), by go_num, below_step HW.out (below_new (Below.refl _ _) _)⟩
            case measure => first | omega | (simp [intOf]; done) | (simp [intOf]; omega)
          · have HC : Hid (dAt d o = true) := decide_eq_true (by omega)
            have p1 : o.fr ≤ d.fr := hc.1
            have p2 : o.till < 0 := hc.2
            clear hc
            go_wp2_with fail
            go_roundw
            case rel => exact ⟨k + 1, by omega, congrArg (Value.int .i64) (by have := at_step HO.out d; rw [HC.out] at this; simp only [if_true] at this; omega), by go_num, below_step HW.out (below_new (Below.refl _ _) _)⟩
            case measure => first | omega | (simp [intOf]; done) | (simp [intOf]; omega)
          · have HC : Hid (dAt d o = true) := decide_eq_true (by omega)
            have p1 : o.fr ≤ d.fr := hc.1
            have p2 : ¬ o.till < 0 := hc.2.1
            have p3 : o.till ≥ d.fr := hc.2.2
            clear hc
            go_wp2_with fail
            go_roundw
            case rel => exact ⟨k + 1, by omega, congrArg (Value.int .i64) (by have := at_step HO.out d; rw [HC.out] at this; simp only [if_true] at this; omega), by go_num, below_step HW.out (below_new (Below.refl _ _) _)⟩
            case measure => first | omega | (simp [intOf]; done) | (simp [intOf]; omega)
          · have HC : Hid (dAt d o = false) := decide_eq_false (by omega)
            have p1 : o.fr ≤ d.fr := hc.1
            have p2 : ¬ o.till < 0 := hc.2.1
            have p3 : ¬ o.till ≥ d.fr := hc.2.2
            clear hc
            go_wp2_with fail
            go_roundw
            case rel => exact ⟨k + 1, by omega, congrArg (Value.int .i64) (by have := at_step HO.out d; rw [HC.out] at this; simp only [Bool.false_eq_true, if_false] at this; omega), by go_num, below_step HW.out (below_new (Below.refl _ _) _)⟩
            case measure => first | omega | (simp [intOf]; done) | (simp [intOf]; omega)
        · obtain rfl : k = len0 := by omega
          have hnl : ¬ (k : Int) < (k : Int) := by omega
          have hct : (l.take k).countP (dAt d) = dUnder l d := by rw [List.take_of_length_le (by rw [HL.out.1]; exact Nat.le_refl _)]; rfl
          have hul : dUnder l d ≤ k := by rw [← HL.out.1]; exact List.countP_le_length
          rw [hct]
          clear hct
          generalize dUnder l d = N at HNX hul ⊢
          have HWW := Lib.hid (below_step HB0.out HW.out)
          rcases Nat.lt_or_ge M N with hmn | hmn
          · have p1 : (N : Int) > (M : Int) := by omega
            go_wp2_with fail
            go_roundw
            case rel => exact ⟨i + 1, by omega, congrArg (Value.int .i64) (by have := HNX.out; omega), by go_num, HWW⟩
            case measure => first | omega | (simp [intOf]; done) | (simp [intOf]; omega)
          · have p1 : ¬ (N : Int) > (M : Int) := by omega
            go_wp2_with fail
            go_roundw
            case rel => exact ⟨i + 1, by omega, congrArg (Value.int .i64) (by have := HNX.out; omega), by go_num, HWW⟩
            case measure => first | omega | (simp [intOf]; done) | (simp [intOf]; omega)
    · obtain rfl : i = len0 := by omega
      have hnl : ¬ (i : Int) < (i : Int) := by omega
      have hLr : IsDds wr a0 i cap0 tb off l := HL.out.later HB.out (fun h => (HL.out.2.2.1 h).2)
      have HLR := Lib.hid hLr
      clear hLr
      go_wp2_with fail
      refine (most_any _ _ _ _ _ _ _ HLR.out (by omega)).mono ?_
      rintro e w4 ⟨rfl, hb⟩
      have HB4 := Lib.hid (below_step HB.out hb)
      have hll := HL.out.1
      clear hb
      rw [hll]
      clear hll
      go_wp2_with fail
      go_ret
      exact ⟨rfl, HB4.out⟩
end Go.Proofs.Ytkadjpllappalaa
