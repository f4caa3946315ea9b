/-
  WholeOnce answers true for all numbers and lists of moves, and leaves all memory that was there as it was. No condition.
-/
import Derived.Test.YtpfjommkjkbonabGreatQB12
namespace Go.Proofs.YtpfjommkjkbonabGreat
open Go.RowKit
set_option linter.unusedVariables false

set_option maxRecDepth 100000 in
set_option maxHeartbeats 8000000 in
theorem walk_WholeOnce (a0 : Int) (a1 : Int) (a2 : Int) (a3 : Option Addr) (len3 cap3 : Nat) (w : World) (w0 : (Lit.int .i64 a0).wf = true) (w1 : (Lit.int .i64 a1).wf = true) (w2 : (Lit.int .i64 a2).wf = true) (w3 : IsRows w [.inl .i64, .inl .i64, .inl .i64, .inl .i64, .inr true, .inr true, .inl .u64, .inl .i64] a3 len3 cap3) :
    Calls Tryz.prog 4 #[.int .i64 a0, .int .i64 a1, .int .i64 a2, .slice a3 len3 cap3] w fun e w' => e = .returned (.bool true) ∧ Below w.heap.size w w' := by
  clear w0 w1 w2
  obtain ⟨V, rfl, hV⟩ := rows_lms w3
  have HV := Lib.hid hV
  clear w3 hV
  rcases Nat.lt_or_ge 300 V.length with hbig | hs4
  · have hbig' : (300 : Int) < (V.length : Int) := by omega
    go_enter Tryz.func4, Tryz.ntmps4
    go_wp2_with fail
    refine (alive_any _).mono ?_
    rintro e w1 ⟨rfl, hb1⟩
    go_wp2_with fail
    go_ret
    exact ⟨rfl, hb1⟩
  have hs5 : ¬ (300 : Int) < (V.length : Int) := by omega
  go_enter Tryz.func4, Tryz.ntmps4
  go_wp2_with fail
  refine (alive_any _).mono ?_
  rintro e w1 ⟨rfl, hb1⟩
  have HB1 := Lib.hid hb1
  have HV1 := Lib.hid (HV.out.later hb1)
  clear hb1 HV
  go_wp2_with fail
  refine (run_any a0 a1 a2 2 1000 a3 cap3 V _ HV1.out (by omega) (.inr (.inr rfl))).mono ?_
  rintro r w2 ⟨W, l, yb, ytb, p, c, T, s, so, N, S, Yf, An, J, g, hR, hTe⟩
  obtain rfl := hR.ret
  have HY := Lib.hid hR.run.yd
  have HB2 := Lib.hid (below_step HB1.out hR.below)
  have hT4 := hR.T4
  have hT1 := hR.T1
  have hn16 := hR.n16
  have hs1 := hR.s1
  have hss4 := hR.s4
  have HEQ := Lib.hid hR.eq
  have hSl : S.length ≤ 300 := by have h := hR.ok.len; have := hR.few; rw [hR.is] at h; omega
  have HTR := Lib.hid hR.run.tr.tr
  have HPT := Lib.hid hR.run.tr
  have HAK := Lib.hid (hR.ok.asks hR.is hR.run.tr)
  have HTM : Hid (∀ m ∈ S, m.k = 2 → m.n ≤ 32768) := Lib.hid (fun m hm => topS_time (T := 1 + a0 % 4) (mode := 2) (most := 1000) V m (by rw [← hTe, hR.is]; exact hm))
  clear hR HB1 HV1 hTe
  go_wp2_with fail
  refine (fin4_any (n := S.length) HY.out HTR.out (by omega) (by show T ≤ 4; omega) (by omega) (by show s ≤ 4; omega) (by show (1 : Int) ≤ 3; decide)).mono ?_
  rintro r w4 ⟨sn, jn, l4, Y4, J4, Yg, rfl, hF⟩
  have hfew := hF.few
  have HYF := Lib.hid hF.yd
  have HTF := Lib.hid hF.tr
  have HAT := Lib.hid hF.at'
  have HID := Lib.hid hF.idle
  have HAF : Hid (AsksOk (Y4.ds.map Dd.ask)) := Lib.hid (by rw [tick_ask hF.tick]; exact HAK.out)
  have hdl : Y4.ds.length ≤ 300 := by rw [tick_ds hF.tick]; have := HY.out.ok.nds; have := HY.out.ok.most; omega
  clear hF HY HTR HPT HAK
  have HTF2 : Hid (YTr ⟨yb, ytb, p, c, T, s, so, 1, T⟩ N Yg (S.length + sn)) := HTF
  have HFACT : Hid (∀ (g : Nat) (dg : Dd), Y4.ds[g]? = some dg → dg.kd = 1 → dg.ok = true → ∃ (i : Nat) (d : Dd), Y4.ds[i]? = some d ∧ d.kd = 0 ∧ d.x = dg.v ∧ d.ok = true ∧ d.fr ≤ dg.till ∧ (∀ (i' : Nat) (d' : Dd), Y4.ds[i']? = some d' → d'.kd = 0 → d'.x = dg.v → i' = i) ∧ ∀ r, TkIs Y4.ds dg.v r → r = g) := Lib.hid (fun g dg h1 h2 h3 => by
    have hat := HAT.out
    have hx := HAF.out.down
    rw [← hat] at h1 hx ⊢
    exact top_once HTF2.out hx h1 h2 h3)
  clear HTF HTF2 HAT HID HAF HTM HEQ
  go_wp2_with fail
  refine (HYF.out.deedsT (by omega) (by show T ≤ 1000; omega)).mono ?_
  rintro r w3 ⟨A3, cp3, tb, rfl, hb3, hD⟩
  have HB3 := Lib.hid (below_step HB2.out (HYF.out.later hb3).h.below)
  have HD := Lib.hid hD
  have hcap := hD.2.1
  have hdl' := hdl
  clear hb3 hD HYF HB2
  generalize Y4.ds = ds at HD HFACT hdl hcap ⊢
  clear hdl'
  obtain ⟨n, hn⟩ : ∃ n, ds.length = n := ⟨_, rfl⟩
  rw [hn] at hdl hcap HD ⊢
  have HN := Lib.hid hn
  clear hn
  go_wp2_with fail
  go_loopw [34] (fun iv wr => ∃ i : Nat, i ≤ n ∧ iv = .int .i64 i ∧ Hid (Below w3.heap.size w3 wr)) (fun iv _ => n - (RowKit.intOf iv).toNat)
  case atStart => exact ⟨0, Nat.zero_le _, rfl, Lib.hid (Below.refl _ _)⟩
  case round =>
    obtain ⟨i, hi, rfl, HB⟩ := hrel
    rcases Nat.lt_or_ge i n with hil | hil
    · have hil' : (i : Int) < (n : Int) := by omega
      obtain ⟨a, ha⟩ : ∃ d, ds[i]? = some d := ⟨_, List.getElem?_eq_getElem (by rw [HN.out]; exact hil)⟩
      obtain ⟨rfl, htb, hat⟩ := (HD.out.less HB.out).one0 ha
      obtain ⟨d0, d1, d2, d3, d4, d5, d6, d7, d8, d9, d10⟩ := hat
      have HG := Lib.hid ha
      clear ha
      have HBN := Lib.hid (fun o => below_new HB.out o)
      by_cases hk : a.kd = 1
      case neg =>
        have hkb : (a.kd != 1) = true := by simp [hk]
        clear hk
        go_wp2_with fail
        go_roundw
        case rel => exact ⟨i + 1, by omega, by go_num, Lib.hid (HBN.out _)⟩
        case measure => first | omega | (simp [RowKit.intOf]; done) | (simp [RowKit.intOf]; omega)
      case pos =>
      have hkb : (a.kd != 1) = false := by simp [hk]
      have HK := Lib.hid hk
      clear hk
      obtain ⟨ok, hok⟩ : ∃ ok, a.ok = ok := ⟨_, rfl⟩
      rw [hok] at d7
      have HOK := Lib.hid hok
      clear hok
      cases ok
      case false =>
        go_wp2_with fail
        go_roundw
        case rel => exact ⟨i + 1, by omega, by go_num, Lib.hid (HBN.out _)⟩
        case measure => first | omega | (simp [RowKit.intOf]; done) | (simp [RowKit.intOf]; omega)
      case true =>
      have hAB : Hid (AtBd (wr.alloc (.cells #[.int .i64 a.who, .int .i64 a.kd, .int .i64 a.e, .int .u64 a.x, .int .i64 a.s, .int .i64 a.fr, .int .i64 a.till, .bool true, .int .u64 a.v, .int .i64 a.lo, .int .i64 a.hi] 39)) wr.heap.size a) := Lib.hid (by
        have h := AtBd.made wr a 39
        unfold Dd.obj at h
        rw [HOK.out] at h
        exact h)
      go_wp2_with fail
      clear d0 d1 d2 d3 d4 d5 d6 d7 d8 d9 d10 hkb
      have HBg := Lib.hid (HBN.out (.cells #[.int .i64 a.who, .int .i64 a.kd, .int .i64 a.e, .int .u64 a.x, .int .i64 a.s, .int .i64 a.fr, .int .i64 a.till, .bool true, .int .u64 a.v, .int .i64 a.lo, .int .i64 a.hi] 39))
      generalize (wr.alloc (.cells #[.int .i64 a.who, .int .i64 a.kd, .int .i64 a.e, .int .u64 a.x, .int .i64 a.s, .int .i64 a.fr, .int .i64 a.till, .bool true, .int .u64 a.v, .int .i64 a.lo, .int .i64 a.hi] 39)) = wg at hAB HBg ⊢
      generalize wr.heap.size = gb at hAB ⊢
      clear HBN HB htb
      obtain ⟨i0, p0, hp0, hp1, hp2, hp3, hp4, hp5, hp6⟩ := HFACT.out i a HG.out HK.out HOK.out
      have hi0 : i0 < n := by have := (List.getElem?_eq_some_iff.1 hp0).1; rw [HN.out] at this; exact this
      have HP := Lib.hid (And.intro hp0 (And.intro hp1 (And.intro hp2 (And.intro hp3 (And.intro hp4 (And.intro hp5 hp6))))))
      clear hp0 hp1 hp2 hp3 hp4 hp5 hp6
      go_loopw [13, 51] (fun pv jv wr => ∃ (j : Nat) (u : Int), j ≤ n ∧ pv = .int .i64 u ∧ jv = .int .i64 j ∧ 0 ≤ u ∧ u ≤ 1 ∧ Hid (u = if i0 < j then 1 else 0) ∧ Hid (Below wg.heap.size wg wr)) (fun _ jv _ => n - (RowKit.intOf jv).toNat)
      case atStart => exact ⟨0, 0, Nat.zero_le _, rfl, rfl, Int.le_refl _, by decide, Lib.hid (by rw [if_neg (by omega)]), Lib.hid (Below.refl _ _)⟩
      case round =>
        obtain ⟨j, u, hj, rfl, rfl, hu0, hu1, HU, HBj⟩ := hrel
        rcases Nat.lt_or_ge j n with hjl | hjl
        · have hjl' : (j : Int) < (n : Int) := by omega
          obtain ⟨b, hb⟩ : ∃ d, ds[j]? = some d := ⟨_, List.getElem?_eq_getElem (by rw [HN.out]; exact hjl)⟩
          obtain ⟨_, htb, hat⟩ := (HD.out.less (below_step HBg.out HBj.out)).one0 hb
          obtain ⟨d0, d1, d2, d3, d4, d5, d6, d7, d8, d9, d10⟩ := hat
          obtain ⟨e0, e1, e2, e3, e4, e5, e6, e7, e8, e9, e10⟩ := hAB.out.later HBj.out
          have hgb := World.block_lt_of_cell? _ _ e0
          have HDD := Lib.hid hb
          have HBk := Lib.hid (fun o => below_new HBj.out o)
          clear hb
          have HNE : Hid (¬ (b.kd = 0 ∧ b.x = a.v) → u = if i0 < j + 1 then 1 else 0) := Lib.hid (fun q => by
            have hne : i0 ≠ j := fun e => by
              subst e
              have h1 := HP.out.1
              rw [HDD.out] at h1
              cases h1
              exact q ⟨HP.out.2.1, HP.out.2.2.1⟩
            rw [HU.out]
            by_cases h : i0 < j
            · rw [if_pos h, if_pos (by omega)]
            · rw [if_neg h, if_neg (by omega)])
          by_cases hk0 : b.kd = 0
          case neg =>
            have hkb : (b.kd == 0) = false := beq_false_of_ne hk0
            have HUN := Lib.hid (HNE.out (fun q => hk0 q.1))
            clear hk0
            go_wp2_with fail
            go_roundw
            case rel => exact ⟨j + 1, u, by omega, rfl, by go_num, hu0, hu1, HUN, Lib.hid (HBk.out _)⟩
            case measure => first | omega | (simp [RowKit.intOf]; done) | (simp [RowKit.intOf]; omega)
          case pos =>
          have hkb : (b.kd == 0) = true := by rw [hk0]; rfl
          have HK0 := Lib.hid hk0
          clear hk0
          by_cases hx : b.x = a.v
          case neg =>
            have hxb : (b.x == a.v) = false := beq_false_of_ne hx
            have HUN := Lib.hid (HNE.out (fun q => hx q.2))
            clear hx
            go_wp2_with fail
            go_roundw
            case rel => exact ⟨j + 1, u, by omega, rfl, by go_num, hu0, hu1, HUN, Lib.hid (HBk.out _)⟩
            case measure => first | omega | (simp [RowKit.intOf]; done) | (simp [RowKit.intOf]; omega)
          case pos =>
          have hxb : (b.x == a.v) = true := by rw [hx]; exact beq_self_eq_true _
          have hji : j = i0 := HP.out.2.2.2.2.2.1 j b HDD.out HK0.out hx
          have hu : u = 0 := by rw [HU.out, if_neg (by omega)]
          have hbp : b = p0 := by
            have h1 := HP.out.1
            rw [← hji, HDD.out] at h1
            cases h1
            rfl
          have hbo : b.ok = true := by rw [hbp]; exact HP.out.2.2.2.1
          have hfr : ¬ a.till < b.fr := by have := HP.out.2.2.2.2.1; rw [← hbp] at this; omega
          have HUN : Hid ((1 : Int) = if i0 < j + 1 then 1 else 0) := Lib.hid (by rw [if_pos (by omega)])
          rw [hbo] at d7
          clear hx hji hbp hbo
          subst hu
          go_wp2_with fail
          go_roundw
          case rel => exact ⟨j + 1, 1, by omega, rfl, by go_num, by decide, by decide, HUN, Lib.hid (HBk.out _)⟩
          case measure => first | omega | (simp [RowKit.intOf]; done) | (simp [RowKit.intOf]; omega)
        · obtain rfl : j = n := by omega
          have hnn : ¬ (j : Int) < (j : Int) := by omega
          have hu : u = 1 := by rw [HU.out, if_pos hi0]
          subst hu
          obtain ⟨e0, e1, e2, e3, e4, e5, e6, e7, e8, e9, e10⟩ := hAB.out.later HBj.out
          have hgb := World.block_lt_of_cell? _ _ e0
          go_wp2_with fail
          refine (ttaken_any (some ⟨tb, 0, none⟩) j cp3 tb 0 ds a.v wr (HD.out.less (below_step HBg.out HBj.out)) (by omega)).mono ?_
          rintro r w7 ⟨kk, rfl, hkk, _, _, hb7⟩
          obtain rfl := HP.out.2.2.2.2.2.2 kk hkk
          have HBz := Lib.hid (below_step (below_step HBg.out HBj.out) hb7)
          clear hkk hb7 e0 e1 e2 e3 e4 e5 e6 e7 e8 e9 e10
          go_wp2_with fail
          go_roundw
          case rel => exact ⟨i + 1, by omega, by go_num, HBz⟩
          case measure => first | omega | (simp [RowKit.intOf]; done) | (simp [RowKit.intOf]; omega)
    · obtain rfl : i = n := by omega
      have hnn : ¬ (i : Int) < (i : Int) := by omega
      have HZ := Lib.hid (below_step HB3.out HB.out)
      go_wp2_with fail
      go_ret
      exact ⟨rfl, HZ.out⟩
end Go.Proofs.YtpfjommkjkbonabGreat
