/-
  LinFinds answers true for all lists of deeds, and leaves all memory that was there as it was. No condition.
-/
import Derived.Test.YtgoncakjkippkaaLinHolds
namespace Go.Proofs.Ytgoncakjkippkaa
open Go.RowKit
set_option linter.unusedVariables false

theorem wp_make_fulll {P : Program} {o : Oper} {a : Act} {w : World} {K : Act → World → Prop} {Q : Exit → Act → World → Prop} (l c : Operand) (t : TypeId) (hop : o.op = Op.makeSlice t l c)
    (base : Nat) (e : TypeId) (i : TypeInfo) (z : Value) (size : Nat) (h1 : P.underlying t = some (.slice e)) (h2 : P.info? e = some i) (h3 : i.zero = some z) (h4 : i.size = size)
    (kl kc : IntKind) (n : Nat) (hl : a.eval l = .int kl (n : Int)) (hc : a.eval c = .int kc (n : Int)) (b2 : i.bytes * n ≤ 281474976710656) (b3 : n ≤ maxLen) (b4 : base ≤ w.heap.size)
    (hK : ∀ w', w'.ownsRow base e size (.slice (some ⟨w.heap.size, 0, none⟩) n n) n (madeCells z.cells (n * size)).toList → w.grownBy w' none → K (a.put o.dst (.slice (some ⟨w.heap.size, 0, none⟩) n n)) w') :
    Oper.wp P o a w K Q := by
  obtain ⟨w', hrun, r1, r2⟩ := run_make_full (P := P) w base t e i z size h1 h2 h3 h4 kl kc n b2 b3 b4
  unfold Oper.wp
  simp [execOp, hop, hl, hc, hrun, Result.andThen]
  exact hK w' r1 r2

/-- make, where what is ahead of it lets it be done. -/
theorem list_make_wanted {P : Program} {ops : Array Oper} {rest : List Oper} {o : Oper} {a : Act} {w : World} {Q : Exit → Act → World → Prop} (hw : Region.wanted o (yielded ops a.tmps) = true) (l c : Operand) (t : TypeId) (hop : o.op = Op.makeSlice t l c)
    (base : Nat) (e : TypeId) (i : TypeInfo) (z : Value) (size : Nat) (h1 : P.underlying t = some (.slice e)) (h2 : P.info? e = some i) (h3 : i.zero = some z) (h4 : i.size = size)
    (kl kc : IntKind) (n : Nat) (hl : a.eval l = .int kl (n : Int)) (hc : a.eval c = .int kc (n : Int)) (b2 : i.bytes * n ≤ 281474976710656) (b3 : n ≤ maxLen) (b4 : base ≤ w.heap.size)
    (hK : ∀ w', w'.ownsRow base e size (.slice (some ⟨w.heap.size, 0, none⟩) n n) n (madeCells z.cells (n * size)).toList → w.grownBy w' none → wpList P ops Q rest (a.put o.dst (.slice (some ⟨w.heap.size, 0, none⟩) n n)) w') : wpList P ops Q (o :: rest) a w := by
  unfold wpList
  rw [if_pos hw]
  exact .inl (wp_make_fulll l c t hop base e i z size h1 h2 h3 h4 kl kc n hl hc b2 b3 b4 hK)

set_option maxRecDepth 100000 in
set_option maxHeartbeats 4000000 in
theorem walk_LinFinds (a0 : Option Addr) (len0 cap0 : Nat) (w : World) (w0 : IsRows w [.inl .i64, .inl .i64, .inl .i64, .inl .u64, .inl .i64, .inl .i64, .inl .i64, .inr true, .inl .u64, .inl .i64, .inl .i64] a0 len0 cap0) :
    Calls Try.prog 5 #[.slice a0 len0 cap0] w fun e w' => e = .returned (.bool true) ∧ Below w.heap.size w w' := by
  rcases Nat.lt_or_ge 7 len0 with hbig | hs
  · have hbig' : (7 : Int) < (len0 : Int) := by omega
    clear w0
    go_enter Try.func5, Try.ntmps5
    go_wp2_with fail
    refine (head15_any _).mono ?_
    rintro e w1 ⟨rfl, hb1⟩
    go_wp2_with fail
    go_ret
    exact ⟨rfl, hb1⟩
  have p0 : decide ((7 : Int) < (len0 : Int)) = false := decide_eq_false (by omega)
  obtain ⟨tb, off, l, hL, _⟩ := rows_dds w0
  have HL := Lib.hid hL
  have hcap := hL.2.1
  clear w0 hL
  go_enter Try.func5, Try.ntmps5
  go_wp2_with fail
  refine (head15_any _).mono ?_
  rintro e w2 ⟨rfl, hb1⟩
  have HB1 := Lib.hid hb1
  have HL1 := Lib.hid (HL.out.later hb1 (fun h => (HL.out.2.2.1 h).2))
  clear hb1
  by_cases hr : ∀ d ∈ l, cOk d
  case neg =>
    have HR := Lib.hid hr
    clear hr
    go_wp2_with fail
    refine (lrights_any _ _ _ _ _ _ _ false HL1.out (by omega) ⟨fun h => Bool.noConfusion h, fun h => absurd h HR.out⟩).mono ?_
    rintro e w3 ⟨rfl, hb3⟩
    have HB3 := Lib.hid (below_step HB1.out hb3)
    clear hb3
    go_wp2_with fail
    go_ret
    exact ⟨rfl, HB3.out⟩
  have HR := Lib.hid hr
  clear hr
  go_wp2_with fail
  refine (lrights_any _ _ _ _ _ _ _ true HL1.out (by omega) ⟨fun _ => HR.out, fun _ => rfl⟩).mono ?_
  rintro e w3 ⟨rfl, hb3⟩
  have HB3 := Lib.hid (below_step HB1.out hb3)
  clear hb3 HB1 HL1
  go_wp2_with fail
  go_loopw [19] (fun iw wr => ∃ i : Nat, i ≤ len0 ∧ iw = .int .i64 i ∧ Hid (Below w.heap.size w wr) ∧ Hid (∀ (j : Nat) (d : Dd), j < i → l[j]? = some d → ¬ (0 ≤ d.till ∧ d.till ≤ d.fr))) (fun iw _ => len0 - (RowKit.intOf iw).toNat)
  case atStart => exact ⟨0, Nat.zero_le _, rfl, HB3, fun j d hj => absurd hj (Nat.not_lt_zero _)⟩
  case round =>
    clear HB3
    obtain ⟨i, hi, rfl, HB, HP⟩ := hrel
    rcases Nat.lt_or_ge i len0 with hil | hil
    · have hil' : (i : Int) < (len0 : Int) := by omega
      obtain ⟨d, hd⟩ : ∃ d, l[i]? = some d := ⟨_, List.getElem?_eq_getElem (by rw [HL.out.1]; exact hil)⟩
      obtain ⟨rfl, htb⟩ := HL.out.2.2.1 (by omega)
      obtain ⟨d0, d1, d2, d3, d4, d5, d6, d7, d8, d9, d10⟩ := ((HL.out.later HB.out (fun _ => htb)).2.2.2 i d hd).1
      have HBN := Lib.hid (below_new HB.out (d.obj 33))
      have HD := Lib.hid hd
      clear hd
      by_cases h1 : 0 ≤ d.till
      case neg =>
        have e1 : decide (0 ≤ d.till) = false := decide_eq_false h1
        have H1 := Lib.hid h1
        clear h1
        go_wp2_with fail
        go_roundw
        case rel =>
          refine ⟨i + 1, by omega, by go_num, HBN, fun j e hj he hh => ?_⟩
          rcases (by omega : j < i ∨ j = i) with hj | rfl
          · exact HP.out j e hj he hh
          · rw [HD.out] at he
            cases he
            exact H1.out hh.1
        case measure => first | omega | (simp [RowKit.intOf]; done) | (simp [RowKit.intOf]; omega)
      case pos =>
        have e1 : decide (0 ≤ d.till) = true := decide_eq_true h1
        clear h1
        by_cases h2 : d.till ≤ d.fr
        case pos =>
          have e2 : decide (d.till ≤ d.fr) = true := decide_eq_true h2
          clear h2
          go_wp2_with fail
          go_ret
          exact ⟨rfl, HBN.out⟩
        case neg =>
          have e2 : decide (d.till ≤ d.fr) = false := decide_eq_false h2
          have H2 := Lib.hid h2
          clear h2
          go_wp2_with fail
          go_roundw
          case rel =>
            refine ⟨i + 1, by omega, by go_num, HBN, fun j e hj he hh => ?_⟩
            rcases (by omega : j < i ∨ j = i) with hj | rfl
            · exact HP.out j e hj he hh
            · rw [HD.out] at he
              cases he
              exact H2.out hh.2
          case measure => first | omega | (simp [RowKit.intOf]; done) | (simp [RowKit.intOf]; omega)
    · obtain rfl : i = len0 := by omega
      have hnl : ¬ (i : Int) < (i : Int) := by omega
      have HS : Hid (∀ d ∈ l, ¬ dBef d d) := fun d hd hb => by
        obtain ⟨j, hj⟩ := List.mem_iff_getElem?.1 hd
        exact HP.out j d (by have := (List.getElem?_eq_some_iff.1 hj).1; have := HL.out.1; omega) hj ⟨hb.1, by have := hb.2; omega⟩
      have HLW := Lib.hid (HL.out.later HB.out (fun h => (HL.out.2.2.1 h).2))
      clear HP
      go_wp2_with fail
      refine (find_any _ _ _ _ _ _ _ HLW.out HS.out (fun d hd => (HR.out d hd).2) (by omega)).mono ?_
      rintro r w6 ⟨hb6, ⟨A6, c6, O, h96, rfl, hown, hlin⟩ | ⟨rfl, hno⟩⟩
      case inl =>
        have HB6 := Lib.hid (below_step HB.out hb6)
        have HL6 := Lib.hid (HLW.out.later hb6 (fun h => (HLW.out.2.2.1 h).2))
        have HOW := Lib.hid hown
        have HH := Lib.hid hlin.holds
        clear hb6 hown hlin HLW
        go_wp2_with fail
        refine (holds_any _ _ _ _ _ _ l A6 c6 O _ HL6.out (by omega) (fun d hd => (HR.out d hd).2) HOW.out HH.out).mono ?_
        rintro r w7 ⟨rfl, hb7⟩
        have HB7 := Lib.hid (below_step HB6.out hb7)
        clear hb7
        go_wp2_with fail
        go_ret
        exact ⟨rfl, HB7.out⟩
      case inr =>
        have hnn : ¬ ∃ s, Lin l (fun _ => False) [] s := hno.resolve_left (by omega)
        have HNN := Lib.hid hnn
        have HB6 := Lib.hid (below_step HB.out hb6)
        have HL6 := Lib.hid (HLW.out.later hb6 (fun h => (HLW.out.2.2.1 h).2))
        obtain ⟨ii, hi0, hz0, hz1, hz2⟩ := elem_bool.info
        clear hb6 hno hnn HLW
        go_wp2_with (at_make; refine list_make_wanted (by first | rfl | simp [Region.wanted, yielded, go_sem]) _ _ 44 rfl w6.heap.size 4 ii (.bool false) 1 elem_bool.und hi0 hz0 hz1 .i64 .i64 i rfl rfl (by rw [hz2]; omega) (by unfold maxLen; omega) (Nat.le_refl _) ?_; intro w7 hown hgrow)
        have hb7 : Below w6.heap.size w6 w7 := (Below.refl _ _).grown hgrow (Nat.le_refl _) (fun k hk => by cases hk)
        rw [made_bools] at hown
        have HIB := Lib.hid (IsB.own hown)
        have HB7 := Lib.hid (below_step HB6.out hb7)
        have HW7 := Lib.hid hb7
        have hns : ∀ k, ¬ inS (List.replicate i false) k := fun k h => by
          unfold inS at h
          rw [List.getD_eq_getElem?_getD, List.getElem?_replicate] at h
          split at h <;> simp at h
        have HNS := Lib.hid hns
        clear hown hgrow hb7 hns hi0 hz0 hz1 hz2
        refine (some_any l w6 a0 i cap0 tb off HL6.out (by omega) (fun d hd => (HR.out d hd).2) i _ _ i (List.replicate i false) none 0 [] false HW7.out (by rw [List.countP_replicate]; simp) List.length_replicate (Nat.le_refl _) (Nat.zero_le _) (Nat.le_refl _) HIB.out.1 (IsU.nil _ _) ⟨fun h => Bool.noConfusion h, fun ⟨s, hs⟩ => absurd ⟨s, hs.same (fun k => ⟨fun h => HNS.out k h, False.elim⟩)⟩ HNN.out⟩).mono ?_
        rintro r w8 ⟨rfl, hb8⟩
        have HB8 := Lib.hid (below_step HB7.out hb8)
        clear hb8
        go_wp2_with fail
        go_ret
        exact ⟨rfl, HB8.out⟩
end Go.Proofs.Ytgoncakjkippkaa
