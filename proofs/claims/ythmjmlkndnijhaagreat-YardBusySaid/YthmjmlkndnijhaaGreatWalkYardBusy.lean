/-
  YardBusy answers true for all lists and numbers, and leaves all memory that was there as it was. No condition.
-/
import Derived.Test.YthmjmlkndnijhaaGreatYardLoop
namespace Go.Proofs.YthmjmlkndnijhaaGreat
open Go.RowKit
set_option linter.unusedVariables false

/-- What is known of a thread's first q deeds: how many aren't over, when the last one was. -/
structure BusyIn (ds : List Dd) (who : Int) (q : Nat) (op last : Int) : Prop where
  op01 : op = 0 ∨ op = 1
  noB : op = 0 → ∀ (i : Nat) (d : Dd), i < q → ds[i]? = some d → d.who = who → d.till ≠ -1
  one : op = 1 → ∃ (i : Nat) (d : Dd), i < q ∧ ds[i]? = some d ∧ d.who = who ∧ d.till = -1
  last : last = -1 ∨ ∃ (i : Nat) (d : Dd), i < q ∧ ds[i]? = some d ∧ d.who = who ∧ last = d.till
section
variable {ds : List Dd} {who op last : Int} {q : Nat} {d : Dd} {pl : Nat → Pl} {t n : Nat} {Y : Yd}
theorem BusyIn.start : BusyIn ds who 0 0 (-1) := ⟨.inl rfl, fun _ i d h => by omega, (fun h => by cases h), .inl rfl⟩
theorem BusyIn.skip (h : BusyIn ds who q op last) (hd : ds[q]? = some d) (hw : d.who ≠ who) : BusyIn ds who (q + 1) op last :=
  ⟨h.op01, fun h0 i d' hi hd' hw' => by
    rcases (by omega : i < q ∨ i = q) with hi | rfl
    · exact h.noB h0 i d' hi hd' hw'
    · rw [hd] at hd'
      cases hd'
      exact absurd hw' hw, fun h1 => by
    obtain ⟨i, d', a, b⟩ := h.one h1
    exact ⟨i, d', by omega, b⟩, h.last.imp id (fun ⟨i, d', a, b⟩ => ⟨i, d', by omega, b⟩)⟩
/-- Its next deed: nothing was open, and it began behind the last one. -/
theorem BusyIn.fits (h : BusyIn Y.ds who q op last) (ho : YOk pl t n Y) (hd : Y.ds[q]? = some d) (hw : d.who = who) : op = 0 ∧ last < d.fr := by
  refine ⟨?_, ?_⟩
  · rcases h.op01 with h0 | h1
    · exact h0
    · obtain ⟨i, d', a, b, c, e⟩ := h.one h1
      exact absurd e ((ho.order i q d' d a b hd).2 (c.trans hw.symm)).1
  · rcases h.last with h0 | ⟨i, d', a, b, c, e⟩
    · have := (ho.deed q d hd).2.1
      omega
    · have := ((ho.order i q d' d a b hd).2 (c.trans hw.symm)).2
      omega
theorem BusyIn.next (h : BusyIn ds who q 0 last) (hd : ds[q]? = some d) (hw : d.who = who) : BusyIn ds who (q + 1) (if d.till = -1 then 1 else 0) d.till := by
  refine ⟨by split; exact .inr rfl; exact .inl rfl, fun h0 i d' hi hd' hw' => ?_, fun h1 => ?_, .inr ⟨q, d, by omega, hd, hw, rfl⟩⟩
  · split at h0
    · cases h0
    · rename_i hne
      rcases (by omega : i < q ∨ i = q) with hi | rfl
      · exact h.noB rfl i d' hi hd' hw'
      · rw [hd] at hd'
        cases hd'
        exact hne
  · split at h1
    · rename_i he
      exact ⟨q, d, by omega, hd, hw, he⟩
    · cases h1
/-- At the end: it is busy just if something is open. -/
theorem BusyIn.busy {k : Nat} (h : BusyIn Y.ds k Y.ds.length op last) (ho : YOk pl t n Y) (hk : k < t) : (op = 0 ∧ Y.ts[k]? = some none) ∨ (op = 1 ∧ ∃ a, Y.ts[k]? = some (some a)) := by
  rcases h.op01 with h0 | h1
  · refine .inl ⟨h0, ?_⟩
    cases hq : Y.ts[k]? with
    | none =>
      rw [List.getElem?_eq_none_iff] at hq
      have := ho.len
      omega
    | some a =>
      cases a with
      | none => rfl
      | some a =>
        obtain ⟨_, _, _, _, d, h5, h6, h7, _⟩ := ho.task k a.1 a.2 hq
        exact absurd h7 (h.noB h0 a.2 d (List.getElem?_eq_some_iff.1 h5).1 h5 h6)
  · obtain ⟨i, d, a, b, c, e⟩ := h.one h1
    obtain ⟨⟨w, g1, g2, g3⟩, _⟩ := ho.deed i d b
    obtain ⟨T, hT⟩ := g3 e
    obtain rfl : w = k := by omega
    exact .inr ⟨h1, _, hT⟩
theorem YOk.tills (ho : YOk pl t n Y) (hd : Y.ds[q]? = some d) : d.till = -1 ∨ 0 ≤ d.till := by
  by_cases h : d.till = -1
  · exact .inl h
  · have := (ho.deed q d hd).2.1
    have := ((ho.deed q d hd).2.2.2 h).1
    exact .inr (by omega)
end

set_option maxRecDepth 100000 in
set_option maxHeartbeats 8000000 in
theorem walk_YardBusy (a0 : Int) (a1 : Int) (a2 : Int) (a3 : Option Addr) (len3 cap3 : Nat) (w : World) (w0 : (Lit.int .i64 a0).wf = true) (w1 : (Lit.int .i64 a1).wf = true) (w2 : (Lit.int .i64 a2).wf = true) (w3 : IsRows w [.inl .i64, .inl .i64, .inr true, .inr true, .inl .u64, .inl .i64, .inl .i64] a3 len3 cap3) :
    Calls Tryz.prog 8 #[.int .i64 a0, .int .i64 a1, .int .i64 a2, .slice a3 len3 cap3] w fun e w' => e = .returned (.bool true) ∧ Below w.heap.size w w' := by
  clear w0 w1 w2
  rcases Nat.lt_or_ge 300 len3 with hbig | hs4
  · have hbig' : (300 : Int) < (len3 : Int) := by omega
    clear w3
    go_enter Tryz.func8, Tryz.ntmps8
    go_wp2_with fail
    refine (head13_any _).mono ?_
    rintro e w1 ⟨rfl, hb1⟩
    go_wp2_with fail
    go_ret
    exact ⟨rfl, hb1⟩
  have p4 : decide ((300 : Int) < (len3 : Int)) = false := decide_eq_false (by omega)
  obtain ⟨tb, off, X, hX⟩ := rows_mvs w3
  have HX0 : Hid (IsMvs w a3 len3 cap3 tb off X) := hX
  clear w3 hX
  go_enter Tryz.func8, Tryz.ntmps8
  go_wp2_with fail
  refine (head13_any _).mono ?_
  rintro e w1 ⟨rfl, hb1⟩
  go_wp2_with fail
  refine (conf4_any _ _ _ _ _).mono ?_
  rintro e w2 ⟨t, s, so, d, rfl, t1, t4, s1, s4, o0, o4, d0, d3, hb2⟩
  have hB2 := Lib.hid (below_step hb1 hb2)
  clear hb1 hb2
  obtain ⟨N, hNe, hlay, hN1, hN2⟩ := lay44 t1 t4 s1 s4
  clear hNe
  obtain ⟨T, rfl⟩ : ∃ T : Nat, t = T := ⟨t.toNat, by omega⟩
  go_wp2_with fail
  have hA := AtC.made w2 T s so d
  have hB3 := below_new (Below.refl w2.heap.size w2) (.cells #[.int .i64 T, .int .i64 s, .int .i64 so, .int .i64 d] 26)
  have hs3 : w2.heap.size < (w2.alloc (.cells #[.int .i64 T, .int .i64 s, .int .i64 so, .int .i64 d] 26)).heap.size := by simp
  have HA := Lib.hid hA
  have HB := Lib.hid (below_step hB2.out hB3)
  have Hs := Lib.hid hs3
  clear hA hB3 hs3 hB2
  generalize w2.alloc (.cells #[.int .i64 T, .int .i64 s, .int .i64 so, .int .i64 d] 26) = W at HA HB Hs ⊢
  generalize w2.heap.size = cb at HA Hs ⊢
  clear w2 w1
  have HX : Hid (IsMvs W a3 len3 cap3 tb off X) := Lib.hid (HX0.out.later HB.out (fun i hi => (HX0.out i hi).2.2.1))
  clear HX0
  refine (ynew_yes (W := W) T s so d N (Below.refl _ _) hlay o0 o4 d0 (by omega)).mono ?_
  rintro r w3 ⟨yb, ytb, p, c, l0, rfl, hl4, hY, hb, hyb⟩
  have HD0 := Lib.hid (YdL.start hlay o0 o4 d0 (by omega) hY)
  have HL4 := Lib.hid hl4
  clear hY hb hyb hl4
  go_wp2_with fail
  go_loopw [39] (fun ix wr => ∃ (i : Nat) (l : List Thing) (Y : Yd) (J : Nat → Nat), i ≤ len3 ∧ ix = .int .i64 i ∧ Hid (YdL W wr l ⟨yb, ytb, p, c, T, s, so, d, T⟩ N Y J i)) (fun ix _ => len3 - (intOf ix).toNat)
  case atStart => exact ⟨0, _, _, _, Nat.zero_le _, rfl, HD0⟩
  case round =>
    clear HD0
    obtain ⟨i, l, Y, J, hi3, rfl, HD⟩ := hrel
    rcases Nat.lt_or_ge i len3 with hi | hi
    · have hi' : (i : Int) < (len3 : Int) := by omega
      obtain ⟨rfl, hcap, htb, hx, x0, x1⟩ := HX.out i hi
      have hW1 := HD.out.h.below
      have hx' := hx.later hW1 htb
      obtain ⟨e0, e1, e2, e3, e4, e5, e6⟩ := hx'
      clear hW1 hx
      obtain ⟨q0, q1, q2, q3⟩ := HA.out.later HD.out.h.below Hs.out
      have hcb : cb < wr.heap.size := Nat.lt_of_lt_of_le Hs.out HD.out.h.size
      have hbx := below_new (Below.refl wr.heap.size wr) (.cells (X i).list.toArray 41)
      have HD2 := Lib.hid (HD.out.later hbx)
      clear hbx
      go_wp2_with fail
      refine (HD2.out.do (by omega) (X i) x0 x1).mono ?_
      rintro r w4 ⟨rfl, l1, J1, Y1, _, hd, _⟩
      have HD1 := Lib.hid hd
      clear hd e0 e1 e2 e3 e4 e5 e6 q0 q1 q2 q3 hcb HD HD2
      go_wp2_with fail
      go_roundw
      case rel => exact ⟨i + 1, l1, Y1, J1, by omega, by go_num, HD1⟩
      case measure => first | omega | (simp [intOf]; done) | (simp [intOf]; omega)
    · obtain rfl : i = len3 := by omega
      have hnn : ¬ (i : Int) < (i : Int) := by omega
      clear HX hi hi3
      go_wp2_with fail
      refine (HD.out.deeds (by omega)).mono ?_
      rintro r w4 ⟨u4, rfl, hr4, hb4⟩
      obtain ⟨A4, cap4, rfl⟩ := own_shape hr4
      have HR := Lib.hid (HD.out.rest (tRow W.heap.size 55 11 (.slice A4 Y.ds.length cap4) Y.ds.length (flatD Y.ds)))
      have HDM := Lib.hid (HD.out.more (A := tRow W.heap.size 55 11 (.slice A4 Y.ds.length cap4) Y.ds.length (flatD Y.ds)) hb4 (tRow_ok _ _ _ _ _ _) (row_base hr4 HD.out.h.size) (fun q hq => (hr4.lt q hq).1))
      have HO := Lib.hid HD.out.ok
      have HNL := Lib.hid (show Y.ds.length ≤ 1000 by have := HD.out.ok.nds; have := HD.out.ok.most; omega)
      clear hr4 hb4
      generalize l.length = j0 at HR
      generalize l ++ [tRow W.heap.size 55 11 (.slice A4 Y.ds.length cap4) Y.ds.length (flatD Y.ds)] = l0' at HR HDM
      clear HD
      go_wp2_with fail
      go_loopw [15] (fun iw wr => ∃ (k : Nat) (l : List Thing) (Y1 : Yd) (J1 : Nat → Nat), k ≤ T ∧ iw = .int .i64 k ∧ Hid (YdL W wr l ⟨yb, ytb, p, c, T, s, so, d, T⟩ N Y1 J1 (i + k)) ∧ Hid (Rest Y1 l J1 j0 (tRow W.heap.size 55 11 (.slice A4 Y.ds.length cap4) Y.ds.length (flatD Y.ds))) ∧ Hid (∀ q : Nat, k ≤ q → Y1.ts[q]? = Y.ts[q]?)) (fun iw _ => 100 - (intOf iw).toNat)
      case atStart => exact ⟨0, _, _, _, Nat.zero_le _, rfl, HDM, HR, fun _ _ => rfl⟩
      case round =>
        clear HDM HR
        obtain ⟨k, l1, Y1, J1, hkT, rfl, HD, HR, HS⟩ := hrel
        obtain ⟨q0, q1, q2, q3⟩ := HA.out.later HD.out.h.below Hs.out
        rcases Nat.lt_or_ge k T with hk | hk
        · have hk' : (k : Int) < (T : Int) := by omega
          go_wp2_with fail
          clear q0 q1 q2 q3
          go_loopw [16, 17, 59] (fun op la ix wr => ∃ (q : Nat) (o lst : Int), q ≤ Y.ds.length ∧ ix = .int .i64 q ∧ op = .int .i64 o ∧ la = .int .i64 lst ∧ Hid (YdL W wr l1 ⟨yb, ytb, p, c, T, s, so, d, T⟩ N Y1 J1 (i + k)) ∧ Hid (BusyIn Y.ds k q o lst)) (fun _ _ ix _ => 2000 - (intOf ix).toNat)
          case atStart => exact ⟨0, 0, -1, Nat.zero_le _, rfl, rfl, rfl, HD, BusyIn.start⟩
          case round =>
            clear HD
            obtain ⟨q, o, lst, hq, rfl, rfl, rfl, HD, HI⟩ := hrel
            have hnl := HNL.out
            rcases Nat.lt_or_ge q Y.ds.length with hql | hql
            · have hql' : (q : Int) < (Y.ds.length : Int) := by omega
              obtain ⟨dd, hdd⟩ : ∃ dd, Y.ds[q]? = some dd := ⟨_, List.getElem?_eq_getElem hql⟩
              have HDD := Lib.hid hdd
              have hown : wr.ownsRow W.heap.size 55 11 (.slice A4 Y.ds.length cap4) Y.ds.length (flatD Y.ds) := HD.out.has HR.out
              obtain ⟨g, cap', hv⟩ := own_at hown (by omega)
              cases hv
              have hcell : ∀ j u, j < 11 → dd.list[j]? = some u → wr.cell? ⟨g, q * 11 + j, none⟩ = some u := fun j u hj hu => (hown.cellAt _ (by show q * 11 + j < Y.ds.length * 11; omega)).trans ((flatD_at HDD.out hj).trans hu)
              have e0 : wr.cell? ⟨g, q * 11, none⟩ = _ := hcell 0 _ (by decide) rfl
              have e1 := hcell 1 _ (by decide) rfl
              have e2 := hcell 2 _ (by decide) rfl
              have e3 := hcell 3 _ (by decide) rfl
              have e4 := hcell 4 _ (by decide) rfl
              have e5 := hcell 5 _ (by decide) rfl
              have e6 := hcell 6 _ (by decide) rfl
              have e7 := hcell 7 _ (by decide) rfl
              have e8 := hcell 8 _ (by decide) rfl
              have e9 := hcell 9 _ (by decide) rfl
              have e10 := hcell 10 _ (by decide) rfl
              clear hcell hown hdd
              have hbx := below_new (Below.refl wr.heap.size wr) (.cells dd.list.toArray 55)
              have HD2 := Lib.hid (HD.out.later hbx)
              clear hbx
              by_cases hw : dd.who = k
              · obtain ⟨rfl, hfr⟩ := HI.out.fits HO.out HDD.out hw
                have HN := Lib.hid (HI.out.next HDD.out hw)
                have hti := HO.out.tills HDD.out
                have n1 : (dd.who != (k : Int)) = false := by simp [hw]
                have hfr' : ¬ dd.fr ≤ lst := by omega
                clear hfr hw
                rcases hti with hti | hti
                · rw [if_pos hti] at HN
                  have hti' : dd.till < 0 := by omega
                  clear hti
                  go_wp2_with fail
                  go_roundw
                  case rel => exact ⟨q + 1, 1, dd.till, by omega, by go_num, by go_num, rfl, HD2, HN⟩
                  case measure => first | omega | (simp [intOf]; done) | (simp [intOf]; omega)
                · rw [if_neg (by omega)] at HN
                  have hti' : ¬ dd.till < 0 := by omega
                  go_wp2_with fail
                  go_roundw
                  case rel => exact ⟨q + 1, 0, dd.till, by omega, by go_num, by go_num, rfl, HD2, HN⟩
                  case measure => first | omega | (simp [intOf]; done) | (simp [intOf]; omega)
              · have n1 : (dd.who != (k : Int)) = true := by simp [hw]
                have HN := Lib.hid (HI.out.skip HDD.out hw)
                clear hw
                go_wp2_with fail
                go_roundw
                case rel => exact ⟨q + 1, o, lst, by omega, by go_num, by go_num, rfl, HD2, HN⟩
                case measure => first | omega | (simp [intOf]; done) | (simp [intOf]; omega)
            · obtain rfl : q = Y.ds.length := by omega
              have hnn : ¬ (Y.ds.length : Int) < (Y.ds.length : Int) := by omega
              have hb := HI.out.busy HO.out hk
              rw [← HS.out k (Nat.le_refl _)] at hb
              rcases hb with ⟨rfl, hb⟩ | ⟨rfl, a, hb⟩
              · have HBU := Lib.hid hb
                clear hb HI
                go_wp2_with fail
                refine (HD.out.busy k false ⟨_, HBU.out, rfl⟩).mono ?_
                rintro r w5 ⟨rfl, rfl⟩
                go_wp2_with fail
                refine (HD.out.call (by omega) k hk true rfl 0 0 0 (.inl rfl) (by decide) (by decide)).mono ?_
                rintro r w6 ⟨l2, J2, Y2, hd, hg, h3⟩
                have HD3 := Lib.hid hd
                have HR3 := Lib.hid (HR.out.go hg)
                rcases h3 with ⟨_, _, a, ha⟩ | ⟨rfl, _, rfl⟩
                · rw [HBU.out] at ha
                  cases ha
                · have HS3 : Hid (∀ q : Nat, k + 1 ≤ q → (Y1.call k 1 0 0 0 (wkB ⟨yb, ytb, p, c, T, s, so, d, T⟩ N k true 0 0 0)).ts[q]? = Y.ts[q]?) := Lib.hid (fun q hq => by
                    show (Y1.ts.set k _)[q]? = _
                    rw [List.getElem?_set_ne (by omega)]
                    exact HS.out q (by omega))
                  clear hd hg
                  go_wp2_with fail
                  refine (HD3.out.busy k true ⟨_, List.getElem?_set_self (List.getElem?_eq_some_iff.1 HBU.out).1, rfl⟩).mono ?_
                  rintro r w7 ⟨rfl, rfl⟩
                  go_wp2_with fail
                  go_roundw
                  case rel => exact ⟨k + 1, l2, _, J2, by omega, by go_num, HD3, HR3, HS3⟩
                  case measure => first | omega | (simp [intOf]; done) | (simp [intOf]; omega)
              · have HBU := Lib.hid hb
                clear hb HI
                go_wp2_with fail
                refine (HD.out.busy k true ⟨_, HBU.out, rfl⟩).mono ?_
                rintro r w5 ⟨rfl, rfl⟩
                go_wp2_with fail
                refine (HD.out.call (by omega) k hk true rfl 0 0 0 (.inl rfl) (by decide) (by decide)).mono ?_
                rintro r w6 ⟨l2, J2, Y2, hd, hg, h3⟩
                have HD3 := Lib.hid hd
                have HR3 := Lib.hid (HR.out.go hg)
                rcases h3 with ⟨rfl, rfl, _⟩ | ⟨_, ha, _⟩
                · have HS3 : Hid (∀ q : Nat, k + 1 ≤ q → Y2.ts[q]? = Y.ts[q]?) := Lib.hid (fun q hq => HS.out q (by omega))
                  clear hd hg
                  go_wp2_with fail
                  refine (HD3.out.busy k true ⟨_, HBU.out, rfl⟩).mono ?_
                  rintro r w7 ⟨rfl, rfl⟩
                  go_wp2_with fail
                  go_roundw
                  case rel => exact ⟨k + 1, l2, _, J2, by omega, by go_num, HD3, HR3, HS3⟩
                  case measure => first | omega | (simp [intOf]; done) | (simp [intOf]; omega)
                · rw [HBU.out] at ha
                  cases ha
        · obtain rfl : k = T := by omega
          have hnn : ¬ (k : Int) < (k : Int) := by omega
          go_wp2
          go_ret
          exact ⟨rfl, below_step' HB.out HD.out.h.below HB.out.size⟩

end Go.Proofs.YthmjmlkndnijhaaGreat
