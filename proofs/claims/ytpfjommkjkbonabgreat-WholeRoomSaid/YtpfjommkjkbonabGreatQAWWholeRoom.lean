/-
  WholeRoom answers true for all numbers and lists of moves, and leaves all memory that was there as it was. No condition.
-/
import Derived.Test.YtpfjommkjkbonabGreatQA12
import Derived.Test.YtpfjommkjkbonabGreatQA13
namespace Go.Proofs.YtpfjommkjkbonabGreat
open Go.RowKit
set_option linter.unusedVariables false

theorem cfld1 (t s so d : Int) (w : World) : (Instr.field 47 (cf t s so d) 1).run Tryz.prog w = .ok (i64 s) w := by
  simp [Instr.field, go_sem, asAgg]
attribute [local go_sem ↓] cfld1
theorem cnt_take {p : Dd → Bool} {l : List Dd} {j : Nat} {d : Dd} (h : l[j]? = some d) : cntL p (l.take (j + 1)) = cntL p (l.take j) + if p d = true then 1 else 0 := by
  rw [List.take_add_one, h]
  exact cntL_snoc

set_option maxRecDepth 100000 in
set_option maxHeartbeats 8000000 in
theorem walk_WholeRoom (a0 : Int) (a1 : Int) (a2 : Int) (a3 : Option Addr) (len3 cap3 : Nat) (w : World) (w0 : (Lit.int .i64 a0).wf = true) (w1 : (Lit.int .i64 a1).wf = true) (w2 : (Lit.int .i64 a2).wf = true) (w3 : IsRows w [.inl .i64, .inl .i64, .inl .i64, .inl .i64, .inr true, .inr true, .inl .u64, .inl .i64] a3 len3 cap3) :
    Calls Tryz.prog 8 #[.int .i64 a0, .int .i64 a1, .int .i64 a2, .slice a3 len3 cap3] w fun e w' => e = .returned (.bool true) ∧ Below w.heap.size w w' := by
  clear w0 w1 w2
  obtain ⟨V, rfl, hV⟩ := rows_lms w3
  have HV := Lib.hid hV
  clear w3 hV
  rcases Nat.lt_or_ge 300 V.length with hbig | hs4
  · have hbig' : (300 : Int) < (V.length : Int) := by omega
    go_enter Tryz.func8, Tryz.ntmps8
    go_wp2_with fail
    refine (alive_any _).mono ?_
    rintro e w1 ⟨rfl, hb1⟩
    go_wp2_with fail
    go_ret
    exact ⟨rfl, hb1⟩
  have hs5 : ¬ (300 : Int) < (V.length : Int) := by omega
  go_enter Tryz.func8, Tryz.ntmps8
  go_wp2_with fail
  refine (alive_any _).mono ?_
  rintro e w1 ⟨rfl, hb1⟩
  have HB1 := Lib.hid hb1
  have HV1 := Lib.hid (HV.out.later hb1)
  clear hb1 HV
  go_wp2_with fail
  refine (run_any a0 a1 a2 2 1000 a3 cap3 V _ HV1.out (by omega) (.inr (.inr rfl))).mono ?_
  rintro r w2 ⟨W, l, yb, ytb, p, c, T, s, so, N, S, Yf, An, J, g, hR, hTe⟩
  obtain rfl := hR.ret
  have HY := Lib.hid hR.run.yd
  have HB2 := Lib.hid (below_step HB1.out hR.below)
  have hT4 := hR.T4
  have hT1 := hR.T1
  have hn16 := hR.n16
  have hs1 := hR.s1
  have hss4 := hR.s4
  have HEQ := Lib.hid hR.eq
  have hSl : S.length ≤ 300 := by have h := hR.ok.len; have := hR.few; rw [hR.is] at h; omega
  have HTR := Lib.hid hR.run.tr.tr
  have HPT := Lib.hid hR.run.tr
  have HAK := Lib.hid (hR.ok.asks hR.is hR.run.tr)
  have HTM : Hid (∀ m ∈ S, m.k = 2 → m.n ≤ 32768) := Lib.hid (fun m hm => topS_time (T := 1 + a0 % 4) (mode := 2) (most := 1000) V m (by rw [← hTe, hR.is]; exact hm))
  clear hR HB1 HV1 hTe
  obtain ⟨sn, hsn⟩ : ∃ sn : Nat, s = sn := ⟨s.toNat, by omega⟩
  have HRM := Lib.hid (HPT.out.room (s := sn) hsn HTM.out hSl S.length (Nat.le_refl _))
  have HWH : Hid (∀ (i : Nat) (d : Dd), (Yf S.length).ds[i]? = some d → ∃ w : Nat, d.who = w) := Lib.hid (fun i d hd => by
    obtain ⟨⟨w, h, _⟩, _⟩ := (HTR.out.all S.length (Nat.le_refl _)).ok.deed i d hd
    exact ⟨w, h⟩)
  obtain ⟨m, hm⟩ : ∃ m, S.length = m := ⟨_, rfl⟩
  rw [hm] at HY HRM HWH hSl
  clear hm HPT HAK HTM HEQ hT1 hn16 hs1 hss4 HTR
  have HNO : Hid (∀ (i : Nat) (d : Dd) (w : Nat), (Yf m).ds[i]? = some d → d.kd = 0 → 0 ≤ d.till → d.ok = false → d.who = w → sn ≤ cntL (putOf w) ((Yf m).ds.take i)) := Lib.hid (fun i d w => HRM.out.no i d w)
  clear HRM
  generalize hYe : Yf m = Y at HY HNO HWH
  clear hYe
  go_wp2_with fail
  refine (HY.out.deedsT (by omega) (by show T ≤ 1000; omega)).mono ?_
  rintro r w3 ⟨A3, cp3, tb, rfl, hb3, hD⟩
  have HB3 := Lib.hid (below_step HB2.out (HY.out.later hb3).h.below)
  have HD := Lib.hid hD
  have hcap := hD.2.1
  have HY3 := Lib.hid (HY.out.later hb3)
  have hdl : Y.ds.length ≤ 300 := by have := HY.out.ok.nds; have := HY.out.ok.most; omega
  clear hb3 hD HY HB2
  obtain ⟨ds, hds⟩ : ∃ ds, Y.ds = ds := ⟨_, rfl⟩
  rw [hds] at HD HNO HWH hdl hcap ⊢
  clear hds
  obtain ⟨n, hn⟩ : ∃ n, ds.length = n := ⟨_, rfl⟩
  rw [hn] at hdl hcap HD ⊢
  have HN := Lib.hid hn
  clear hn
  have HSN := Lib.hid hsn
  clear hsn
  go_wp2_with fail
  go_loopw [32] (fun iv wr => ∃ i : Nat, i ≤ n ∧ iv = .int .i64 i ∧ Hid (Below w3.heap.size w3 wr)) (fun iv _ => n - (RowKit.intOf iv).toNat)
  case atStart => exact ⟨0, Nat.zero_le _, rfl, Lib.hid (Below.refl _ _)⟩
  case round =>
    obtain ⟨i, hi, rfl, HB⟩ := hrel
    rcases Nat.lt_or_ge i n with hil | hil
    · have hil' : (i : Int) < (n : Int) := by omega
      obtain ⟨a, ha⟩ : ∃ d, ds[i]? = some d := ⟨_, List.getElem?_eq_getElem (by rw [HN.out]; exact hil)⟩
      obtain ⟨rfl, htb, hat⟩ := (HD.out.less HB.out).one0 ha
      obtain ⟨d0, d1, d2, d3, d4, d5, d6, d7, d8, d9, d10⟩ := hat
      have HG := Lib.hid ha
      clear ha
      have HBN := Lib.hid (fun o => below_new HB.out o)
      by_cases hk : a.kd = 0
      case neg =>
        have hkb : (a.kd != 0) = true := by simp [hk]
        clear hk
        go_wp2_with fail
        go_roundw
        case rel => exact ⟨i + 1, by omega, by go_num, Lib.hid (HBN.out _)⟩
        case measure => first | omega | (simp [RowKit.intOf]; done) | (simp [RowKit.intOf]; omega)
      case pos =>
      have hkb : (a.kd != 0) = false := by simp [hk]
      have HK := Lib.hid hk
      clear hk
      by_cases ht : a.till < 0
      case pos =>
        go_wp2_with fail
        go_roundw
        case rel => exact ⟨i + 1, by omega, by go_num, Lib.hid (HBN.out _)⟩
        case measure => first | omega | (simp [RowKit.intOf]; done) | (simp [RowKit.intOf]; omega)
      case neg =>
      have HT := Lib.hid ht
      obtain ⟨ok, hok⟩ : ∃ ok, a.ok = ok := ⟨_, rfl⟩
      rw [hok] at d7
      have HOK := Lib.hid hok
      clear hok
      cases ok
      case true =>
        go_wp2_with fail
        go_roundw
        case rel => exact ⟨i + 1, by omega, by go_num, Lib.hid (HBN.out _)⟩
        case measure => first | omega | (simp [RowKit.intOf]; done) | (simp [RowKit.intOf]; omega)
      case false =>
      have hAB : Hid (AtBd (wr.alloc (.cells #[.int .i64 a.who, .int .i64 a.kd, .int .i64 a.e, .int .u64 a.x, .int .i64 a.s, .int .i64 a.fr, .int .i64 a.till, .bool false, .int .u64 a.v, .int .i64 a.lo, .int .i64 a.hi] 39)) wr.heap.size a) := Lib.hid (by
        have h := AtBd.made wr a 39
        unfold Dd.obj at h
        rw [HOK.out] at h
        exact h)
      obtain ⟨wn, hwn⟩ := HWH.out i a HG.out
      have HWN := Lib.hid hwn
      have HUS := Lib.hid (HNO.out i a wn HG.out HK.out (by omega) HOK.out hwn)
      have hicp : i ≤ cp3 := by omega
      have hicp' : (i : Int) ≤ (cp3 : Int) := by omega
      clear hwn
      go_wp2_with fail
      clear d0 d1 d2 d3 d4 d5 d6 d7 d8 d9 d10 hkb ht hicp hicp'
      have HBg := Lib.hid (HBN.out (.cells #[.int .i64 a.who, .int .i64 a.kd, .int .i64 a.e, .int .u64 a.x, .int .i64 a.s, .int .i64 a.fr, .int .i64 a.till, .bool false, .int .u64 a.v, .int .i64 a.lo, .int .i64 a.hi] 39))
      generalize (wr.alloc (.cells #[.int .i64 a.who, .int .i64 a.kd, .int .i64 a.e, .int .u64 a.x, .int .i64 a.s, .int .i64 a.fr, .int .i64 a.till, .bool false, .int .u64 a.v, .int .i64 a.lo, .int .i64 a.hi] 39)) = wg at hAB HBg ⊢
      generalize wr.heap.size = gb at hAB ⊢
      clear HBN HB htb
      go_loopw [13, 55] (fun uv jv wr => ∃ (j u : Nat), j ≤ i ∧ u ≤ j ∧ uv = .int .i64 u ∧ jv = .int .i64 j ∧ Hid (Below wg.heap.size wg wr) ∧ Hid (u = cntL (putOf wn) (ds.take j))) (fun _ jv _ => i - (RowKit.intOf jv).toNat)
      case atStart => exact ⟨0, 0, Nat.zero_le _, Nat.zero_le _, rfl, rfl, Lib.hid (Below.refl _ _), Lib.hid (by rw [List.take_zero]; rfl)⟩
      case round =>
        obtain ⟨j, u, hj, huj, rfl, rfl, HBj, HU⟩ := hrel
        rcases Nat.lt_or_ge j i with hjl | hjl
        · have hjl' : (j : Int) < (i : Int) := by omega
          obtain ⟨b, hb⟩ : ∃ d, ds[j]? = some d := ⟨_, List.getElem?_eq_getElem (by rw [HN.out]; omega)⟩
          obtain ⟨_, htb, hat⟩ := (HD.out.less (below_step HBg.out HBj.out)).one0 hb
          obtain ⟨d0, d1, d2, d3, d4, d5, d6, d7, d8, d9, d10⟩ := hat
          obtain ⟨e0, e1, e2, e3, e4, e5, e6, e7, e8, e9, e10⟩ := hAB.out.later HBj.out
          have hgb := World.block_lt_of_cell? _ _ e0
          have HCT := Lib.hid (cnt_take (p := putOf wn) hb)
          have HBk := Lib.hid (fun o => below_new HBj.out o)
          have HNX : Hid (putOf wn b = false → u = cntL (putOf wn) (ds.take (j + 1))) := Lib.hid (fun q => by rw [HCT.out, q]; simp; exact HU.out)
          clear hb
          by_cases hw : b.who = a.who
          case neg =>
            have hwb : (b.who == a.who) = false := beq_false_of_ne hw
            have HPF := Lib.hid (HNX.out (by unfold putOf; rw [← HWN.out, decide_eq_false hw, Bool.and_false]))
            clear hw
            go_wp2_with fail
            go_roundw
            case rel => exact ⟨j + 1, u, by omega, by omega, rfl, by go_num, Lib.hid (HBk.out _), HPF⟩
            case measure => first | omega | (simp [RowKit.intOf]; done) | (simp [RowKit.intOf]; omega)
          case pos =>
          have hwb : (b.who == a.who) = true := by rw [hw]; exact beq_self_eq_true _
          have HW := Lib.hid hw
          clear hw
          by_cases hk0 : b.kd = 0
          case neg =>
            have hkb : (b.kd == 0) = false := beq_false_of_ne hk0
            have HPF := Lib.hid (HNX.out (by unfold putOf; rw [decide_eq_false hk0, Bool.and_false, Bool.false_and]))
            clear hk0
            go_wp2_with fail
            go_roundw
            case rel => exact ⟨j + 1, u, by omega, by omega, rfl, by go_num, Lib.hid (HBk.out _), HPF⟩
            case measure => first | omega | (simp [RowKit.intOf]; done) | (simp [RowKit.intOf]; omega)
          case pos =>
          have hkb : (b.kd == 0) = true := by rw [hk0]; rfl
          have HK0 := Lib.hid hk0
          clear hk0
          obtain ⟨bo, hbo⟩ : ∃ bo, b.ok = bo := ⟨_, rfl⟩
          rw [hbo] at d7
          have HBO := Lib.hid hbo
          clear hbo
          cases bo
          case false =>
            have HPF := Lib.hid (HNX.out (by unfold putOf; rw [HBO.out]; rfl))
            go_wp2_with fail
            go_roundw
            case rel => exact ⟨j + 1, u, by omega, by omega, rfl, by go_num, Lib.hid (HBk.out _), HPF⟩
            case measure => first | omega | (simp [RowKit.intOf]; done) | (simp [RowKit.intOf]; omega)
          case true =>
            have HPF : Hid (u + 1 = cntL (putOf wn) (ds.take (j + 1))) := Lib.hid (by
              rw [HCT.out, show putOf wn b = true by unfold putOf; rw [HBO.out, decide_eq_true HK0.out, HW.out, decide_eq_true HWN.out]; rfl, if_pos rfl, ← HU.out])
            go_wp2_with fail
            go_roundw
            case rel => exact ⟨j + 1, u + 1, by omega, by omega, by go_num, by go_num, Lib.hid (HBk.out _), HPF⟩
            case measure => first | omega | (simp [RowKit.intOf]; done) | (simp [RowKit.intOf]; omega)
        · obtain rfl : j = i := by omega
          have hnn : ¬ (j : Int) < (j : Int) := by omega
          have husn : sn ≤ u := by rw [HU.out]; exact HUS.out
          have HYz := Lib.hid (HY3.out.later (below_step HBg.out HBj.out))
          obtain ⟨v6, vd6, X6, hA6⟩ := HYz.out.h
          have HA6 := Lib.hid hA6
          have hlt1 : ¬ (u : Int) < s := by have := HSN.out; omega
          clear hA6 husn
          go_wp2_with fail
          refine (yconf_any HA6.out).mono ?_
          rintro r w7 ⟨rfl, hb7⟩
          have HBz := Lib.hid (below_step (below_step HBg.out HBj.out) hb7)
          have hfl := cfld1 (T : Int) s so 1 w7
          clear hb7 HA6 HYz
          go_wp2_with fail
          go_roundw
          case rel => exact ⟨j + 1, by omega, by go_num, HBz⟩
          case measure => first | omega | (simp [RowKit.intOf]; done) | (simp [RowKit.intOf]; omega)
    · obtain rfl : i = n := by omega
      have hnn : ¬ (i : Int) < (i : Int) := by omega
      have HZ := Lib.hid (below_step HB3.out HB.out)
      go_wp2_with fail
      go_ret
      exact ⟨rfl, HZ.out⟩
end Go.Proofs.YtpfjommkjkbonabGreat
