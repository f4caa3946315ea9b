/-
  PickBefore answers true for every list of words, and leaves all memory that was there as it was. No condition.
-/
import Derived.Test.YthncappmjdgmnaaPickRow
import Derived.Deep.DeepCutAuto
namespace Go.Proofs.Ythncappmjdgmnaa
open Go.RowKit
set_option linter.unusedVariables false
attribute [local go_sem ↓] fld0 fld1 fld3

/-- Of two of which the one stands left of the other one. -/
theorem apart_ends {x y : Int} {i j : Nat} (x0 : 0 ≤ x) (x1 : x ≤ 18446744073709551615) (y0 : 0 ≤ y) (y1 : y ≤ 18446744073709551615) (h : xkey x i < xkey y j) : ¬ (x / 4 % 2 = 1 ∧ y / 4 % 2 = 0) := by
  rintro ⟨h1, h2⟩
  have n1 : 0 ≤ lkey (x / 65536 % 16777216) (x / 1099511627776) i := lkey_nn (by omega) (by omega)
  have n2 : 0 ≤ lkey (y / 65536 % 16777216) (y / 1099511627776) j := lkey_nn (by omega) (by omega)
  unfold xkey pkey at h
  rw [if_neg (by omega), if_pos h2] at h
  omega
theorem left_wrong {x y : Int} {i j : Nat} (x0 : 0 ≤ x) (x1 : x ≤ 18446744073709551615) (y0 : 0 ≤ y) (y1 : y ≤ 18446744073709551615) (i1 : i < 1000000) (j1 : j < 1000000) (h : xkey x i < xkey y j) (hx : x / 4 % 2 = 0) (hy : y / 4 % 2 = 0) (hb : x / 1099511627776 < y / 65536 % 16777216) : rightB (x / 65536 % 16777216) (x / 1099511627776) = false := by
  refine decide_eq_false ?_
  rintro ⟨r0, r1, r2⟩
  unfold xkey pkey lkey at h
  rw [if_pos hx, if_pos hy] at h
  omega
theorem right_wrong {x y : Int} {i j : Nat} (x0 : 0 ≤ x) (x1 : x ≤ 18446744073709551615) (y0 : 0 ≤ y) (y1 : y ≤ 18446744073709551615) (i1 : i < 1000000) (j1 : j < 1000000) (h : xkey x i < xkey y j) (hx : x / 4 % 2 = 1) (hy : y / 4 % 2 = 1) (hb : y / 1099511627776 < x / 65536 % 16777216) : rightB (y / 65536 % 16777216) (y / 1099511627776) = false := by
  refine decide_eq_false ?_
  rintro ⟨r0, r1, r2⟩
  unfold xkey pkey lkey at h
  rw [if_neg (by omega), if_neg (by omega)] at h
  omega

set_option maxRecDepth 100000 in
set_option maxHeartbeats 8000000 in
theorem walk_PickBefore (a0 : Option Addr) (len0 cap0 : Nat) (w : World) (w0 : IsRows w [.inl .u64] a0 len0 cap0) :
    Calls Try.prog 5 #[.slice a0 len0 cap0] w fun e w' => e = .returned (.bool true) ∧ Below w.heap.size w w' := by
  obtain ⟨ws, rfl, hW⟩ := rows_words w0
  clear w0
  have HW := Lib.hid hW
  clear hW
  by_cases hbig : 60 < ws.length
  · have hbig' : (60 : Int) < (ws.length : Int) := by omega
    go_enter Try.func5, Try.ntmps5
    go_wp2_with fail
    refine (head8_any _).mono ?_
    rintro e w1 ⟨rfl, hb1⟩
    go_wp2_with fail
    go_ret
    exact ⟨rfl, hb1⟩
  have p0 : decide ((60 : Int) < (ws.length : Int)) = false := decide_eq_false (by omega)
  obtain ⟨len, hlen⟩ : ∃ len : Nat, ws.length = len := ⟨_, rfl⟩
  have Hlen := Lib.hid hlen
  have hord := fun W => order_any W a0 cap0 ws
  rw [hlen] at hbig p0 hord ⊢
  have HORD := Lib.hid hord
  clear hlen hord
  go_enter Try.func5, Try.ntmps5
  go_wp2_with fail
  refine (head8_any _).mono ?_
  rintro e w1 ⟨rfl, hb1⟩
  have HB1 := Lib.hid hb1
  clear hb1
  go_wp2_with fail
  refine (HORD.out _ (HW.out.later HB1.out) (by omega)).mono ?_
  rintro r w2 ⟨v, S, rfl, ho, hi, hb2⟩
  have HB2 := Lib.hid (below_step HB1.out hb2)
  have HWo := Lib.hid (HW.out.later HB2.out)
  clear hb2 HB1
  obtain ⟨A, c1, rfl, hc1, hi1⟩ := id hi.has
  have HI := Lib.hid hi1
  have HO := Lib.hid ho
  have hSl := ho.len
  rw [Hlen.out] at hSl
  clear hi hi1 ho HORD
  obtain ⟨wo, rfl⟩ : ∃ wo : World, wo = w2 := ⟨_, rfl⟩
  go_wp2_with fail
  go_loopw [19] (fun i wr => ∃ (e : Nat), e ≤ S.length ∧ i = .int .i64 e ∧ Hid (Below wo.heap.size wo wr)) (fun i _ => S.length - (intOf i).toNat)
  case atStart => exact ⟨0, by omega, rfl, Below.refl _ _⟩
  case round =>
    obtain ⟨e, he, rfl, HB⟩ := hrel
    rcases Nat.lt_or_ge e S.length with heN | heN
    · have heN' : (e : Int) < (S.length : Int) := by omega
      have hgd : ∀ j (hj : j < S.length), S.getD j 0 = S[j] := fun j hj => by rw [List.getD_eq_getElem?_getD, List.getElem?_eq_getElem hj]; rfl
      have hmem : ∀ j, j < S.length → S.getD j 0 < len := fun j hj => by rw [hgd j hj, ← Hlen.out]; exact ((HO.out.mem _).1 (List.getElem_mem _)).1
      have hris : ∀ j, e < j → j < S.length → wkey ws (S.getD e 0) < wkey ws (S.getD j 0) := fun j h1 h2 => by rw [hgd e heN, hgd j h2]; exact List.pairwise_iff_getElem.1 HO.out.rise e j heN h2 h1
      obtain ⟨b1, off1, rfl, hc⟩ := HI.out (by omega)
      have z1 := (below_rule HB.out _ (by rw [hc e heN]; rfl)).trans (hc e heN)
      obtain ⟨s, hs⟩ : ∃ s : Nat, S.getD e 0 = s := ⟨_, rfl⟩
      have hsl := hmem e heN
      rw [hs] at hsl z1
      simp only [hs] at hris
      have HM := Lib.hid hmem
      have HR := Lib.hid hris
      have HC := Lib.hid hc
      obtain ⟨m, hm⟩ : ∃ m : Nat, S.length - (e + 1) = m := ⟨_, rfl⟩
      have Hm := Lib.hid hm
      have hmb : m ≤ 60 := by omega
      clear hgd hmem hris hc hs hm
      rcases Nat.lt_or_ge (e + 1) S.length with h1S | h1S
      · go_wp2_with fail
        rw [Hm.out]
        obtain ⟨ww, rfl⟩ : ∃ ww : World, ww = wr := ⟨_, rfl⟩
        clear z1
        go_loopw [29] (fun j wr => ∃ (d : Nat), d ≤ m ∧ j = .int .i64 d ∧ Hid (Below ww.heap.size ww wr)) (fun j _ => m - (intOf j).toNat)
        case atStart => exact ⟨0, by omega, rfl, Below.refl _ _⟩
        case round =>
          obtain ⟨d, hd, rfl, HD⟩ := hrel
          rcases Nat.lt_or_ge d m with hdN | hdN
          · have hdN' : (d : Int) < (m : Int) := by omega
            have hj : e + 1 + d < S.length := by have := Hm.out; omega
            have HBD := Lib.hid (below_step HB.out HD.out)
            obtain ⟨b0, off0, rfl, hw⟩ := HWo.out.has (by have := Hlen.out; omega)
            have zq := (below_rule HBD.out _ (by rw [HC.out (e + 1 + d) hj]; rfl)).trans (HC.out (e + 1 + d) hj)
            have hq0 := HM.out (e + 1 + d) hj
            have hkey := HR.out (e + 1 + d) (by omega) hj
            obtain ⟨q, hq⟩ : ∃ q : Nat, S.getD (e + 1 + d) 0 = q := ⟨_, rfl⟩
            rw [hq] at zq hq0 hkey
            rw [show off1 + (e + 1 + d) = off1 + (e + 1) + d by omega] at zq
            have zx := (below_rule HBD.out _ (by rw [hw s (by have := Hlen.out; omega)]; rfl)).trans (hw s (by have := Hlen.out; omega))
            have zy := (below_rule HBD.out _ (by rw [hw q (by have := Hlen.out; omega)]; rfl)).trans (hw q (by have := Hlen.out; omega))
            have fx := HW.out.fit s
            have fy := HW.out.fit q
            unfold wkey at hkey
            obtain ⟨x, hx⟩ : ∃ x : Int, ws.getD s 0 = x := ⟨_, rfl⟩
            obtain ⟨y, hy⟩ : ∃ x : Int, ws.getD q 0 = x := ⟨_, rfl⟩
            rw [hx] at zx fx hkey
            rw [hy] at zy fy hkey
            obtain ⟨x0, x1⟩ := fx
            obtain ⟨y0, y1⟩ := fy
            have HK := Lib.hid hkey
            have HZY := Lib.hid zy
            clear hq hw hkey hx hy zy hj
            go_wp2_with fail
            refine (unpack_any x _ x0 x1).mono ?_
            rintro r w5 ⟨rfl, hb5⟩
            have zy := (below_rule hb5 _ (by rw [HZY.out]; rfl)).trans HZY.out
            have Hv : Hid (IsObj (w5.alloc (.cells #[.int .i64 (x % 4), .int .i64 (x / 4 % 2), .int .i64 (x / 8 % 8192), .int .i64 (x / 65536 % 16777216), .int .i64 (x / 1099511627776)] 34)) w5.heap.size [i64 (x % 4), i64 (x / 4 % 2), i64 (x / 8 % 8192), i64 (x / 65536 % 16777216), i64 (x / 1099511627776)]) := IsObj.made w5 [i64 (x % 4), i64 (x / 4 % 2), i64 (x / 8 % 8192), i64 (x / 65536 % 16777216), i64 (x / 1099511627776)] 34
            have HB5 := Lib.hid (below_new (below_step HD.out hb5) (.cells #[.int .i64 (x % 4), .int .i64 (x / 4 % 2), .int .i64 (x / 8 % 8192), .int .i64 (x / 65536 % 16777216), .int .i64 (x / 1099511627776)] 34))
            have zy2 := cell_new zy (.cells #[.int .i64 (x % 4), .int .i64 (x / 4 % 2), .int .i64 (x / 8 % 8192), .int .i64 (x / 65536 % 16777216), .int .i64 (x / 1099511627776)] 34)
            clear hb5 HZY zq zx zy
            go_upto_region 15 with (fail)
            generalize w5.alloc (.cells #[.int .i64 (x % 4), .int .i64 (x / 4 % 2), .int .i64 (x / 8 % 8192), .int .i64 (x / 65536 % 16777216), .int .i64 (x / 1099511627776)] 34) = w6 at Hv HB5 zy2 ⊢
            generalize w5.heap.size = bv at Hv ⊢
            clear w5
            go_wp2_with fail
            refine (unpack_any y _ y0 y1).mono ?_
            rintro r w7 ⟨rfl, hb7⟩
            replace Hv := Lib.hid ((Hv.out.later hb7).later (below_new (Below.refl _ _) (.cells #[.int .i64 (y % 4), .int .i64 (y / 4 % 2), .int .i64 (y / 8 % 8192), .int .i64 (y / 65536 % 16777216), .int .i64 (y / 1099511627776)] 34)))
            have Hu : Hid (IsObj (w7.alloc (.cells #[.int .i64 (y % 4), .int .i64 (y / 4 % 2), .int .i64 (y / 8 % 8192), .int .i64 (y / 65536 % 16777216), .int .i64 (y / 1099511627776)] 34)) w7.heap.size [i64 (y % 4), i64 (y / 4 % 2), i64 (y / 8 % 8192), i64 (y / 65536 % 16777216), i64 (y / 1099511627776)]) := IsObj.made w7 [i64 (y % 4), i64 (y / 4 % 2), i64 (y / 8 % 8192), i64 (y / 65536 % 16777216), i64 (y / 1099511627776)] 34
            have HB7 := Lib.hid (below_new (below_step HB5.out hb7) (.cells #[.int .i64 (y % 4), .int .i64 (y / 4 % 2), .int .i64 (y / 8 % 8192), .int .i64 (y / 65536 % 16777216), .int .i64 (y / 1099511627776)] 34))
            clear hb7 HB5 zy2
            go_upto_region 16 with (fail)
            generalize w7.alloc (.cells #[.int .i64 (y % 4), .int .i64 (y / 4 % 2), .int .i64 (y / 8 % 8192), .int .i64 (y / 65536 % 16777216), .int .i64 (y / 1099511627776)] 34) = w8 at Hv Hu HB7 ⊢
            generalize w7.heap.size = bu at Hu ⊢
            clear w7
            have hends := apart_ends x0 x1 y0 y1 HK.out
            have hlw := left_wrong x0 x1 y0 y1 (by omega) (by omega) HK.out
            have hrw := right_wrong x0 x1 y0 y1 (by omega) (by omega) HK.out
            obtain ⟨ex, hex⟩ : ∃ q : Int, x / 4 % 2 = q := ⟨_, rfl⟩
            obtain ⟨ey, hey⟩ : ∃ q : Int, y / 4 % 2 = q := ⟨_, rfl⟩
            obtain ⟨lx, hlx⟩ : ∃ q : Int, x / 65536 % 16777216 = q := ⟨_, rfl⟩
            obtain ⟨ly, hly⟩ : ∃ q : Int, y / 65536 % 16777216 = q := ⟨_, rfl⟩
            obtain ⟨hx, hhx⟩ : ∃ q : Int, x / 1099511627776 = q := ⟨_, rfl⟩
            obtain ⟨hy, hhy⟩ : ∃ q : Int, y / 1099511627776 = q := ⟨_, rfl⟩
            have ex01 : ex = 0 ∨ ex = 1 := by omega
            have ey01 : ey = 0 ∨ ey = 1 := by omega
            rw [hex, hlx, hhx] at Hv
            rw [hey, hly, hhy] at Hu
            rw [hex, hey] at hends
            rw [hex, hey, hlx, hly, hhx] at hlw
            rw [hex, hey, hlx, hly, hhy] at hrw
            clear hex hey hlx hly hhx hhy HK x0 x1 y0 y1
            have v1 := Hv.out.at' 1 _ rfl
            have v3 := Hv.out.at' 3 _ rfl
            have v4 := Hv.out.at' 4 _ rfl
            have u1 := Hu.out.at' 1 _ rfl
            have u3 := Hu.out.at' 3 _ rfl
            have u4 := Hu.out.at' 4 _ rfl
            rcases ex01 with rfl | rfl
            · rcases ey01 with rfl | rfl
              · have HLW : Hid (hx < ly → rightB lx hx = false) := fun h => hlw rfl rfl h
                clear hends hlw hrw
                go_wp2_with fail
                refine (before_any _ _ _ _ _).mono ?_
                rintro r w9 ⟨rfl, hb9⟩
                clear v1 v3 v4 u1 u3 u4
                have hv := Hv.out.later hb9
                have hu := Hu.out.later hb9
                have v1 := hv.at' 1 _ rfl
                have v3 := hv.at' 3 _ rfl
                have v4 := hv.at' 4 _ rfl
                have u1 := hu.at' 1 _ rfl
                have u3 := hu.at' 3 _ rfl
                have u4 := hu.at' 4 _ rfl
                replace Hv := Lib.hid hv
                replace Hu := Lib.hid hu
                replace HB7 := Lib.hid (below_step HB7.out hb9)
                clear hv hu hb9
                by_cases hlt : hx < ly
                · have hw := HLW.out hlt
                  have HWR := Lib.hid hw
                  clear hw
                  go_wp2_with fail
                  refine (right_any _ _ _).mono ?_
                  rintro r w10 ⟨rfl, hb10⟩
                  rw [HWR.out]
                  have HB10 := Lib.hid (below_step HB7.out hb10)
                  clear hb10
                  go_wp2_with fail
                  go_roundw
                  case rel => exact ⟨d + 1, by omega, by go_num, HB10⟩
                  case measure => first | omega | (simp [intOf]; done) | (simp [intOf]; omega)
                · skip
                  go_wp2_with fail
                  go_roundw
                  case rel => exact ⟨d + 1, by omega, by go_num, HB7⟩
                  case measure => first | omega | (simp [intOf]; done) | (simp [intOf]; omega)
              · clear hends hlw hrw
                go_wp2_with fail
                go_roundw
                case rel => exact ⟨d + 1, by omega, by go_num, HB7⟩
                case measure => first | omega | (simp [intOf]; done) | (simp [intOf]; omega)
            · rcases ey01 with rfl | rfl
              · exact absurd ⟨rfl, rfl⟩ hends
              · have HRW : Hid (hy < lx → rightB ly hy = false) := fun h => hrw rfl rfl h
                clear hends hlw hrw
                go_wp2_with fail
                refine (before_any _ _ _ _ _).mono ?_
                rintro r w9 ⟨rfl, hb9⟩
                clear v1 v3 v4 u1 u3 u4
                have hv := Hv.out.later hb9
                have hu := Hu.out.later hb9
                have v1 := hv.at' 1 _ rfl
                have v3 := hv.at' 3 _ rfl
                have v4 := hv.at' 4 _ rfl
                have u1 := hu.at' 1 _ rfl
                have u3 := hu.at' 3 _ rfl
                have u4 := hu.at' 4 _ rfl
                replace Hv := Lib.hid hv
                replace Hu := Lib.hid hu
                replace HB7 := Lib.hid (below_step HB7.out hb9)
                clear hv hu hb9
                by_cases hlt : hy < lx
                · have hw := HRW.out hlt
                  have HWR := Lib.hid hw
                  clear hw
                  go_wp2_with fail
                  refine (right_any _ _ _).mono ?_
                  rintro r w10 ⟨rfl, hb10⟩
                  clear v1 v3 v4 u1 u3 u4
                  have hv := Hv.out.later hb10
                  have hu := Hu.out.later hb10
                  have v1 := hv.at' 1 _ rfl
                  have v3 := hv.at' 3 _ rfl
                  have v4 := hv.at' 4 _ rfl
                  have u1 := hu.at' 1 _ rfl
                  have u3 := hu.at' 3 _ rfl
                  have u4 := hu.at' 4 _ rfl
                  replace Hv := Lib.hid hv
                  replace Hu := Lib.hid hu
                  replace HB7 := Lib.hid (below_step HB7.out hb10)
                  clear hv hu hb10
                  by_cases hrx : rightB lx hx = true
                  · rw [hrx]
                    clear hrx
                    go_wp2_with fail
                    refine (right_any _ _ _).mono ?_
                    rintro r w11 ⟨rfl, hb11⟩
                    rw [HWR.out]
                    have HB11 := Lib.hid (below_step HB7.out hb11)
                    clear hb11
                    go_wp2_with fail
                    go_roundw
                    case rel => exact ⟨d + 1, by omega, by go_num, HB11⟩
                    case measure => first | omega | (simp [intOf]; done) | (simp [intOf]; omega)
                  · have hrf : rightB lx hx = false := by simpa using hrx
                    rw [hrf]
                    clear hrx hrf
                    go_wp2_with fail
                    go_roundw
                    case rel => exact ⟨d + 1, by omega, by go_num, HB7⟩
                    case measure => first | omega | (simp [intOf]; done) | (simp [intOf]; omega)
                · skip
                  go_wp2_with fail
                  go_roundw
                  case rel => exact ⟨d + 1, by omega, by go_num, HB7⟩
                  case measure => first | omega | (simp [intOf]; done) | (simp [intOf]; omega)
          · have hdN' : ¬ (d : Int) < (m : Int) := by omega
            go_wp2_with fail
            go_roundw
            case rel => exact ⟨e + 1, by omega, by go_num, below_step HB.out HD.out⟩
            case measure => first | omega | (simp [intOf]; done) | (simp [intOf]; omega)
      · have hm0 : S.length - (e + 1) = 0 := by omega
        clear Hm
        rcases Nat.lt_or_ge (e + 1) c1 with hcc | hcc
        · go_wp2_with fail
          (try rw [hm0])
          clear z1
          obtain ⟨ww, rfl⟩ : ∃ ww : World, ww = wr := ⟨_, rfl⟩
          go_loopw [29] (fun j wr => j = .int .i64 0 ∧ Hid (Below ww.heap.size ww wr)) (fun j _ => 0)
          case atStart => exact ⟨rfl, Below.refl _ _⟩
          case round =>
            obtain ⟨rfl, HD⟩ := hrel
            go_wp2_with fail
            go_roundw
            case rel => exact ⟨e + 1, by omega, by go_num, below_step HB.out HD.out⟩
            case measure => first | omega | (simp [intOf]; done) | (simp [intOf]; omega)
        · obtain rfl : c1 = e + 1 := by omega
          go_wp2_with fail
          (try rw [hm0])
          clear z1
          obtain ⟨ww, rfl⟩ : ∃ ww : World, ww = wr := ⟨_, rfl⟩
          go_loopw [29] (fun j wr => j = .int .i64 0 ∧ Hid (Below ww.heap.size ww wr)) (fun j _ => 0)
          case atStart => exact ⟨rfl, Below.refl _ _⟩
          case round =>
            obtain ⟨rfl, HD⟩ := hrel
            go_wp2_with fail
            go_roundw
            case rel => exact ⟨e + 1, by omega, by go_num, below_step HB.out HD.out⟩
            case measure => first | omega | (simp [intOf]; done) | (simp [intOf]; omega)
    · have heN' : ¬ (e : Int) < (S.length : Int) := by omega
      go_wp2_with fail
      go_ret
      exact ⟨rfl, below_step HB2.out HB.out⟩

end Go.Proofs.Ythncappmjdgmnaa
