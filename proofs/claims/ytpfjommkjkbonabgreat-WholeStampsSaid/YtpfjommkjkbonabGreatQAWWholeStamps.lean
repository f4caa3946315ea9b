/-
  WholeStamps answers true for all numbers and lists of moves, and leaves all memory that was there as it was. No condition.
-/
import Derived.Test.YtpfjommkjkbonabGreatQA12
import Derived.Test.YtpfjommkjkbonabGreatQA1
namespace Go.Proofs.YtpfjommkjkbonabGreat
open Go.RowKit
set_option linter.unusedVariables false

set_option maxRecDepth 100000 in
set_option maxHeartbeats 8000000 in
theorem walk_WholeStamps (a0 : Int) (a1 : Int) (a2 : Int) (a3 : Option Addr) (len3 cap3 : Nat) (w : World) (w0 : (Lit.int .i64 a0).wf = true) (w1 : (Lit.int .i64 a1).wf = true) (w2 : (Lit.int .i64 a2).wf = true) (w3 : IsRows w [.inl .i64, .inl .i64, .inl .i64, .inl .i64, .inr true, .inr true, .inl .u64, .inl .i64] a3 len3 cap3) :
    Calls Tryz.prog 5 #[.int .i64 a0, .int .i64 a1, .int .i64 a2, .slice a3 len3 cap3] w fun e w' => e = .returned (.bool true) ∧ Below w.heap.size w w' := by
  clear w0 w1 w2
  obtain ⟨V, rfl, hV⟩ := rows_lms w3
  have HV := Lib.hid hV
  clear w3 hV
  rcases Nat.lt_or_ge 300 V.length with hbig | hs4
  · have hbig' : (300 : Int) < (V.length : Int) := by omega
    go_enter Tryz.func5, Tryz.ntmps5
    go_wp2_with fail
    refine (alive_any _).mono ?_
    rintro e w1 ⟨rfl, hb1⟩
    go_wp2_with fail
    go_ret
    exact ⟨rfl, hb1⟩
  have hs5 : ¬ (300 : Int) < (V.length : Int) := by omega
  go_enter Tryz.func5, Tryz.ntmps5
  go_wp2_with fail
  refine (alive_any _).mono ?_
  rintro e w1 ⟨rfl, hb1⟩
  have HB1 := Lib.hid hb1
  have HV1 := Lib.hid (HV.out.later hb1)
  clear hb1 HV
  go_wp2_with fail
  refine (run_any a0 a1 a2 2 1000 a3 cap3 V _ HV1.out (by omega) (.inr (.inr rfl))).mono ?_
  rintro r w2 ⟨W, l, yb, ytb, p, c, T, s, so, N, S, Yf, An, J, g, hR, hTe⟩
  obtain rfl := hR.ret
  have HY := Lib.hid hR.run.yd
  have HB2 := Lib.hid (below_step HB1.out hR.below)
  have hT4 := hR.T4
  have hT1 := hR.T1
  have hn16 := hR.n16
  have hs1 := hR.s1
  have hss4 := hR.s4
  have HEQ := Lib.hid hR.eq
  have hSl : S.length ≤ 300 := by have h := hR.ok.len; have := hR.few; rw [hR.is] at h; omega
  have HTR := Lib.hid hR.run.tr.tr
  have HPT := Lib.hid hR.run.tr
  have HAK := Lib.hid (hR.ok.asks hR.is hR.run.tr)
  have HTM : Hid (∀ m ∈ S, m.k = 2 → m.n ≤ 32768) := Lib.hid (fun m hm => topS_time (T := 1 + a0 % 4) (mode := 2) (most := 1000) V m (by rw [← hTe, hR.is]; exact hm))
  clear hR HB1 HV1 hTe
  obtain ⟨m, hm⟩ : ∃ m, S.length = m := ⟨_, rfl⟩
  rw [hm] at HY HTR hSl
  clear hm HPT HAK HTM HEQ hT1 hn16 hs1 hss4
  have HSO := Lib.hid (HTR.out.all m (Nat.le_refl _)).sok
  have HRI : Hid (∀ (i : Nat) (a : Dd), (Yf m).ds[i]? = some a → a.kd = 0 → a.ok = true → rightB a.lo a.hi = true) := Lib.hid (fun i a h1 h2 h3 => decide_eq_true (HSO.out.right i a h1 h2 h3))
  have HOR : Hid (∀ (i j : Nat) (a b : Dd), (Yf m).ds[i]? = some a → (Yf m).ds[j]? = some b → a.kd = 0 → a.ok = true → b.kd = 0 → b.ok = true → dBef a b → decide (a.hi < b.lo) = true) := Lib.hid (fun i j a b h1 h2 h3 h4 h5 h6 h7 => decide_eq_true (HSO.out.order i j a b h1 h2 h3 h4 h5 h6 h7.2))
  clear HSO HTR
  generalize hYe : Yf m = Y at HY HRI HOR
  clear hYe
  go_wp2_with fail
  refine (HY.out.deedsT (by omega) (by show T ≤ 1000; omega)).mono ?_
  rintro r w3 ⟨A3, cp3, tb, rfl, hb3, hD⟩
  have HB3 := Lib.hid (below_step HB2.out (HY.out.later hb3).h.below)
  have HD := Lib.hid hD
  have hcap := hD.2.1
  have hdl : Y.ds.length ≤ 300 := by have := HY.out.ok.nds; have := HY.out.ok.most; omega
  clear hb3 hD HY HB2
  generalize Y.ds = ds at HD HRI HOR hdl hcap ⊢
  obtain ⟨n, hn⟩ : ∃ n, ds.length = n := ⟨_, rfl⟩
  rw [hn] at hdl hcap HD ⊢
  have HN := Lib.hid hn
  clear hn
  go_wp2_with fail
  go_loopw [31] (fun iv wr => ∃ i : Nat, i ≤ n ∧ iv = .int .i64 i ∧ Hid (Below w3.heap.size w3 wr)) (fun iv _ => n - (RowKit.intOf iv).toNat)
  case atStart => exact ⟨0, Nat.zero_le _, rfl, Lib.hid (Below.refl _ _)⟩
  case round =>
    obtain ⟨i, hi, rfl, HB⟩ := hrel
    rcases Nat.lt_or_ge i n with hil | hil
    · have hil' : (i : Int) < (n : Int) := by omega
      obtain ⟨a, ha⟩ : ∃ d, ds[i]? = some d := ⟨_, List.getElem?_eq_getElem (by rw [HN.out]; exact hil)⟩
      obtain ⟨rfl, htb, hat⟩ := (HD.out.less HB.out).one0 ha
      obtain ⟨d0, d1, d2, d3, d4, d5, d6, d7, d8, d9, d10⟩ := hat
      have HG := Lib.hid ha
      clear ha
      have HBN := Lib.hid (fun o => below_new HB.out o)
      by_cases hk : a.kd = 0
      case neg =>
        have hkb : (a.kd != 0) = true := by simp [hk]
        clear hk
        go_wp2_with fail
        go_roundw
        case rel => exact ⟨i + 1, by omega, by go_num, Lib.hid (HBN.out _)⟩
        case measure => first | omega | (simp [RowKit.intOf]; done) | (simp [RowKit.intOf]; omega)
      case pos =>
      have hkb : (a.kd != 0) = false := by simp [hk]
      have HK := Lib.hid hk
      clear hk
      obtain ⟨ok, hok⟩ : ∃ ok, a.ok = ok := ⟨_, rfl⟩
      rw [hok] at d7
      have HOK := Lib.hid hok
      clear hok
      cases ok
      case false =>
        go_wp2_with fail
        go_roundw
        case rel => exact ⟨i + 1, by omega, by go_num, Lib.hid (HBN.out _)⟩
        case measure => first | omega | (simp [RowKit.intOf]; done) | (simp [RowKit.intOf]; omega)
      case true =>
      have hAB : Hid (AtBd (wr.alloc (.cells #[.int .i64 a.who, .int .i64 a.kd, .int .i64 a.e, .int .u64 a.x, .int .i64 a.s, .int .i64 a.fr, .int .i64 a.till, .bool true, .int .u64 a.v, .int .i64 a.lo, .int .i64 a.hi] 39)) wr.heap.size a) := Lib.hid (by
        have h := AtBd.made wr a 39
        unfold Dd.obj at h
        rw [HOK.out] at h
        exact h)
      go_wp2_with fail
      clear d0 d1 d2 d3 d4 d5 d6 d7 d8 d9 d10 hkb
      have HBg := Lib.hid (HBN.out (.cells #[.int .i64 a.who, .int .i64 a.kd, .int .i64 a.e, .int .u64 a.x, .int .i64 a.s, .int .i64 a.fr, .int .i64 a.till, .bool true, .int .u64 a.v, .int .i64 a.lo, .int .i64 a.hi] 39))
      refine (right_any a.lo a.hi _).mono ?_
      rintro r w5 ⟨rfl, hb5⟩
      rw [HRI.out i a HG.out HK.out HOK.out]
      have HBh := Lib.hid (below_step HBg.out hb5)
      have HAB := Lib.hid (hAB.out.later hb5)
      clear hb5 hAB HBg HBN HB
      generalize hgb : wr.heap.size = gb at HAB ⊢
      clear hgb htb
      go_wp2_with fail
      go_loopw [52] (fun jv wr => ∃ (j : Nat), j ≤ n ∧ jv = .int .i64 j ∧ Hid (Below w5.heap.size w5 wr)) (fun jv _ => n - (RowKit.intOf jv).toNat)
      case atStart => exact ⟨0, Nat.zero_le _, rfl, Lib.hid (Below.refl _ _)⟩
      case round =>
        obtain ⟨j, hj, rfl, HBj⟩ := hrel
        rcases Nat.lt_or_ge j n with hjl | hjl
        · have hjl' : (j : Int) < (n : Int) := by omega
          obtain ⟨b, hb⟩ : ∃ d, ds[j]? = some d := ⟨_, List.getElem?_eq_getElem (by rw [HN.out]; exact hjl)⟩
          obtain ⟨_, htb, hat⟩ := (HD.out.less (below_step HBh.out HBj.out)).one0 hb
          obtain ⟨d0, d1, d2, d3, d4, d5, d6, d7, d8, d9, d10⟩ := hat
          obtain ⟨e0, e1, e2, e3, e4, e5, e6, e7, e8, e9, e10⟩ := HAB.out.later HBj.out
          have hgb := World.block_lt_of_cell? _ _ e0
          have HDD := Lib.hid hb
          have HBk := Lib.hid (fun o => below_new HBj.out o)
          clear hb
          by_cases hk0 : b.kd = 0
          case neg =>
            have hkb : (b.kd == 0) = false := beq_false_of_ne hk0
            clear hk0
            go_wp2_with fail
            go_roundw
            case rel => exact ⟨j + 1, by omega, by go_num, Lib.hid (HBk.out _)⟩
            case measure => first | omega | (simp [RowKit.intOf]; done) | (simp [RowKit.intOf]; omega)
          case pos =>
          have hkb : (b.kd == 0) = true := by rw [hk0]; rfl
          have HK0 := Lib.hid hk0
          clear hk0
          obtain ⟨bo, hbo⟩ : ∃ bo, b.ok = bo := ⟨_, rfl⟩
          rw [hbo] at d7
          have HBO := Lib.hid hbo
          clear hbo
          cases bo
          case false =>
            go_wp2_with fail
            go_roundw
            case rel => exact ⟨j + 1, by omega, by go_num, Lib.hid (HBk.out _)⟩
            case measure => first | omega | (simp [RowKit.intOf]; done) | (simp [RowKit.intOf]; omega)
          case true =>
          have HPB : Hid (AtBd (wr.alloc (.cells #[.int .i64 b.who, .int .i64 b.kd, .int .i64 b.e, .int .u64 b.x, .int .i64 b.s, .int .i64 b.fr, .int .i64 b.till, .bool true, .int .u64 b.v, .int .i64 b.lo, .int .i64 b.hi] 39)) wr.heap.size b) := Lib.hid (by
            have h := AtBd.made wr b 39
            unfold Dd.obj at h
            rw [HBO.out] at h
            exact h)
          go_wp2_with fail
          refine (tbefore_any _ a { b with ok := true }).mono ?_
          rintro r w6 ⟨rfl, hb6⟩
          have HB6 := Lib.hid (below_step (HBk.out _) hb6)
          have HG6 := Lib.hid (HAB.out.later HB6.out)
          have HP6 := Lib.hid (HPB.out.later hb6)
          clear hb6 HPB d0 d1 d2 d3 d4 d5 d6 d7 d8 d9 d10 e0 e1 e2 e3 e4 e5 e6 e7 e8 e9 e10 hgb htb
          by_cases hbf : dBef a b
          case neg =>
            rw [show decide (dBef a { b with ok := true }) = false from decide_eq_false hbf]
            clear hbf
            go_wp2_with fail
            go_roundw
            case rel => exact ⟨j + 1, by omega, by go_num, HB6⟩
            case measure => first | omega | (simp [RowKit.intOf]; done) | (simp [RowKit.intOf]; omega)
          case pos =>
          rw [show decide (dBef a { b with ok := true }) = true from decide_eq_true hbf]
          have HLT := Lib.hid (HOR.out i j a b HG.out HDD.out HK.out HOK.out HK0.out HBO.out hbf)
          clear hbf
          obtain ⟨e0, e1, e2, e3, e4, e5, e6, e7, e8, e9, e10⟩ := HG6.out
          obtain ⟨p0, p1, p2, p3, p4, p5, p6, p7, p8, p9, p10⟩ := HP6.out
          go_wp2_with fail
          refine (before_any a.lo a.hi b.lo b.hi _).mono ?_
          rintro r w7 ⟨rfl, hb7⟩
          rw [HLT.out]
          have HB7 := Lib.hid (below_step HB6.out hb7)
          clear hb7 e0 e1 e2 e3 e4 e5 e6 e7 e8 e9 e10 p0 p1 p2 p3 p4 p5 p6 p7 p8 p9 p10
          go_wp2_with fail
          go_roundw
          case rel => exact ⟨j + 1, by omega, by go_num, HB7⟩
          case measure => first | omega | (simp [RowKit.intOf]; done) | (simp [RowKit.intOf]; omega)
        · obtain rfl : j = n := by omega
          have hnn : ¬ (j : Int) < (j : Int) := by omega
          have HBz := Lib.hid (below_step HBh.out HBj.out)
          go_wp2_with fail
          go_roundw
          case rel => exact ⟨i + 1, by omega, by go_num, HBz⟩
          case measure => first | omega | (simp [RowKit.intOf]; done) | (simp [RowKit.intOf]; omega)
    · obtain rfl : i = n := by omega
      have hnn : ¬ (i : Int) < (i : Int) := by omega
      have HZ := Lib.hid (below_step HB3.out HB.out)
      go_wp2_with fail
      go_ret
      exact ⟨rfl, HZ.out⟩
end Go.Proofs.YtpfjommkjkbonabGreat
