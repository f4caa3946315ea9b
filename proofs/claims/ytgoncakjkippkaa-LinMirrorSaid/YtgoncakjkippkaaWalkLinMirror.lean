/-
  LinMirror answers true for all lists of deeds, and leaves all memory that was there as it was. No condition.
-/
import Derived.Test.YtgoncakjkippkaaLinRows
namespace Go.Proofs.Ytgoncakjkippkaa
open Go.RowKit
set_option linter.unusedVariables false

theorem mirror_same (l : List Dd) (h : ∀ d ∈ l, cOk d) : (dRun [] (l.map dTurn)).isSome = (dRun [] l).isSome := by
  have e := dRun_turn l [] (fun d hd => (h d hd).2)
  rw [show ([] : List Int).reverse = [] from rfl] at e
  rw [e]
  cases dRun [] l <;> rfl
theorem src_dl' (W : World) (b : Nat) (hb : W.heap.size = b) (d : Dd) : Src (W.alloc (d.obj 33)) 11 (some ⟨b, 0, none⟩) 1 d.list := hb ▸ src_dl W d
theorem turn_fit {d : Dd} (h : d.Fit) : (dTurn d).Fit := ⟨h.who, h.f0, h.f1, h.t0, h.t1⟩

set_option maxRecDepth 100000 in
set_option maxHeartbeats 4000000 in
theorem walk_LinMirror (a0 : Option Addr) (len0 cap0 : Nat) (w : World) (w0 : IsRows w [.inl .i64, .inl .i64, .inl .i64, .inl .u64, .inl .i64, .inl .i64, .inl .i64, .inr true, .inl .u64, .inl .i64, .inl .i64] a0 len0 cap0) :
    Calls Try.prog 8 #[.slice a0 len0 cap0] w fun e w' => e = .returned (.bool true) ∧ Below w.heap.size w w' := by
  rcases Nat.lt_or_ge 60 len0 with hbig | hs
  · have hbig' : (60 : Int) < (len0 : Int) := by omega
    clear w0
    go_enter Try.func8, Try.ntmps8
    go_wp2_with fail
    refine (head15_any _).mono ?_
    rintro e w1 ⟨rfl, hb1⟩
    go_wp2_with fail
    go_ret
    exact ⟨rfl, hb1⟩
  have p0 : decide ((60 : Int) < (len0 : Int)) = false := decide_eq_false (by omega)
  obtain ⟨tb, off, l, hL, _⟩ := rows_dds w0
  have HL := Lib.hid hL
  have hcap := hL.2.1
  clear w0 hL
  go_enter Try.func8, Try.ntmps8
  go_wp2_with fail
  refine (head15_any _).mono ?_
  rintro e w2 ⟨rfl, hb1⟩
  have HB1 := Lib.hid hb1
  have HL1 := Lib.hid (HL.out.later hb1 (fun h => (HL.out.2.2.1 h).2))
  clear hb1
  by_cases hr : ∀ d ∈ l, cOk d
  case neg =>
    have HR := Lib.hid hr
    clear hr
    go_wp2_with fail
    refine (lrights_any _ _ _ _ _ _ _ false HL1.out (by omega) ⟨fun h => Bool.noConfusion h, fun h => absurd h HR.out⟩).mono ?_
    rintro e w3 ⟨rfl, hb3⟩
    have HB3 := Lib.hid (below_step HB1.out hb3)
    clear hb3
    go_wp2_with fail
    go_ret
    exact ⟨rfl, HB3.out⟩
  case pos =>
    have HR := Lib.hid hr
    clear hr
    go_wp2_with fail
    refine (lrights_any _ _ _ _ _ _ _ true HL1.out (by omega) ⟨fun _ => HR.out, fun _ => rfl⟩).mono ?_
    rintro e w3 ⟨rfl, hb3⟩
    have HB3 := Lib.hid (below_step HB1.out hb3)
    clear hb3 HB1 HL1
    go_wp2_with fail
    have HO0 := Lib.hid (OwnD.nil HB3.out)
    go_loopw [3, 19] (fun vv iw wr => ∃ (i : Nat) (A : Option Addr) (c : Nat), i ≤ len0 ∧ vv = .slice A i c ∧ iw = .int .i64 i ∧ Hid (OwnD w wr (.slice A i c) i ((l.take i).map dTurn))) (fun _ iw _ => len0 - (RowKit.intOf iw).toNat)
    case atStart => exact ⟨0, _, 0, Nat.zero_le _, rfl, rfl, by rw [List.take_zero]; exact HO0⟩
    case round =>
      clear HO0
      obtain ⟨i, A, c, hi, rfl, rfl, HO⟩ := hrel
      rcases Nat.lt_or_ge i len0 with hil | hil
      · have hil' : (i : Int) < (len0 : Int) := by omega
        obtain ⟨d, hd⟩ : ∃ d, l[i]? = some d := ⟨_, List.getElem?_eq_getElem (by rw [HL.out.1]; exact hil)⟩
        obtain ⟨rfl, htb⟩ := HL.out.2.2.1 (by omega)
        obtain ⟨hA, hF⟩ := (HL.out.later HO.out.2.1 (fun _ => htb)).2.2.2 i d hd
        obtain ⟨c0, c1, c2, c3, c4, c5, c6, c7, c8, c9, c10⟩ := hA
        have hbn := below_new (Below.refl wr.heap.size wr) (d.obj 33)
        have HON := Lib.hid (HO.out.later hbn)
        have HDB := Lib.hid (AtBd.made wr d 33)
        have HDO := Lib.hid (IsObj.made wr d.list 33)
        have he := (HR.out d (List.mem_of_getElem? hd)).2
        have HE := Lib.hid he
        have HD := Lib.hid hd
        have HBL := Lib.hid (HO.out.2.2.lt)
        have HWL := Lib.hid HO.out.2.1.size
        clear hd hF hbn he
        go_wp2_with fail
        refine (other_any _ d.e HE.out).mono ?_
        rintro r w4 ⟨rfl, hb4⟩
        have HO4 := Lib.hid (HON.out.later hb4)
        have hX := (HDO.out.later hb4)
        have HXX := Lib.hid ((HDO.out.later hb4).set 2 (.int .i64 (1 - d.e)))
        clear HON hb4 c0 c1 c2 c3 c4 c5 c6 c7 c8 c9 c10
        generalize wr.heap.size = B at hX HXX HBL HWL ⊢
        have c0 := hX.at' 0 _ rfl
        have c1 := hX.at' 1 _ rfl
        have c2 := hX.at' 2 _ rfl
        have c3 := hX.at' 3 _ rfl
        have c4 := hX.at' 4 _ rfl
        have c5 := hX.at' 5 _ rfl
        have c6 := hX.at' 6 _ rfl
        have c7 := hX.at' 7 _ rfl
        have c8 := hX.at' 8 _ rfl
        have c9 := hX.at' 9 _ rfl
        have c10 := hX.at' 10 _ rfl
        have z2 := hX.fz 2
        have HRA := Lib.hid (((HO4.out.set (B := B) (fun k hk => Nat.ne_of_lt (HBL.out k hk).2) HWL.out 2 (.int .i64 (1 - d.e))).later (below_new (Below.refl _ _) ((dTurn d).obj 33))))
        clear hX
        go_wp2_with (at_builtin; refine list_append_grew rfl _ _ 38 rfl w.heap.size 33 _ 11 88 elem_dd (.slice A i c) i (flatD ((l.take i).map dTurn)) rfl HRA.out.2.2 (some ⟨_, 0, none⟩) 1 1 (dTurn d).list rfl (src_dl' _ _ (by simp [World.setCell]) (dTurn d)) (by unfold maxLen; omega) (by omega) HRA.out.2.1.size ?_; intro v' w5 hG)
        have hO5 := HRA.out.grew hG
        obtain ⟨A5, c5, rfl⟩ := hO5.shape
        have HO5 : Hid (OwnD w w5 (.slice A5 (i + 1) c5) (i + 1) ((l.take (i + 1)).map dTurn)) := by
          rw [List.take_add_one, HD.out, List.map_append]
          exact hO5
        clear hG hO5
        go_wp2_with fail
        go_roundw
        case rel => exact ⟨i + 1, A5, c5, by omega, rfl, by go_num, HO5⟩
        case measure => first | omega | (simp [RowKit.intOf]; done) | (simp [RowKit.intOf]; omega)
      · obtain rfl : i = len0 := by omega
        have hnl : ¬ (i : Int) < (i : Int) := by omega
        have hO := HO.out
        rw [List.take_of_length_le (by rw [HL.out.1]; exact Nat.le_refl _)] at hO
        obtain ⟨tb2, hD2⟩ := hO.dds (fun d hd => by
          obtain ⟨d', hd', rfl⟩ := List.mem_map.1 hd
          obtain ⟨j, hj⟩ := List.mem_iff_getElem?.1 hd'
          exact turn_fit (HL.out.2.2.2 j d' hj).2)
        have HD2 := Lib.hid hD2
        have HB5 := Lib.hid hO.2.1
        have HL5 := Lib.hid (HL.out.later hO.2.1 (fun h => (HL.out.2.2.1 h).2))
        clear hO hD2 HO
        obtain ⟨bb, hbb⟩ : ∃ bb, bb = (dRun [] l).isSome := ⟨_, rfl⟩
        have HBB := Lib.hid hbb
        clear hbb
        go_wp2_with fail
        refine (legal_any _ _ _ _ _ _ _ bb HD2.out (by omega) (by rw [HBB.out, mirror_same l HR.out])).mono ?_
        rintro e w6 ⟨rfl, hb6⟩
        have HB6 := Lib.hid (below_step HB5.out hb6)
        have HL6 := Lib.hid (HL5.out.later (B := wr.heap.size) hb6 (fun h => Nat.lt_of_lt_of_le (HL5.out.2.2.1 h).2 (Nat.le_refl _)))
        clear hb6 HB5 HL5
        go_wp2_with fail
        refine (legal_any _ _ _ _ _ _ _ bb HL6.out (by omega) HBB.out).mono ?_
        rintro e w7 ⟨rfl, hb7⟩
        have HB7 := Lib.hid (below_step HB6.out hb7)
        clear hb7
        cases bb
        all_goals
          go_wp2_with fail
          go_ret
          exact ⟨rfl, HB7.out⟩
end Go.Proofs.Ytgoncakjkippkaa
