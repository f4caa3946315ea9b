/-
  WholeEmpty answers true for all numbers and lists of moves, and leaves all memory that was there as it was. No condition.
-/
import Derived.Test.YtpfjommkjkbonabGreatQB12
namespace Go.Proofs.YtpfjommkjkbonabGreat
open Go.RowKit
set_option linter.unusedVariables false

set_option maxRecDepth 100000 in
set_option maxHeartbeats 8000000 in
theorem walk_WholeEmpty (a0 : Int) (a1 : Int) (a2 : Int) (a3 : Option Addr) (len3 cap3 : Nat) (w : World) (w0 : (Lit.int .i64 a0).wf = true) (w1 : (Lit.int .i64 a1).wf = true) (w2 : (Lit.int .i64 a2).wf = true) (w3 : IsRows w [.inl .i64, .inl .i64, .inl .i64, .inl .i64, .inr true, .inr true, .inl .u64, .inl .i64] a3 len3 cap3) :
    Calls Tryz.prog 3 #[.int .i64 a0, .int .i64 a1, .int .i64 a2, .slice a3 len3 cap3] w fun e w' => e = .returned (.bool true) ∧ Below w.heap.size w w' := by
  clear w0 w1 w2
  obtain ⟨V, rfl, hV⟩ := rows_lms w3
  have HV := Lib.hid hV
  clear w3 hV
  rcases Nat.lt_or_ge 300 V.length with hbig | hs4
  · have hbig' : (300 : Int) < (V.length : Int) := by omega
    go_enter Tryz.func3, Tryz.ntmps3
    go_wp2_with fail
    refine (alive_any _).mono ?_
    rintro e w1 ⟨rfl, hb1⟩
    go_wp2_with fail
    go_ret
    exact ⟨rfl, hb1⟩
  have hs5 : ¬ (300 : Int) < (V.length : Int) := by omega
  go_enter Tryz.func3, Tryz.ntmps3
  go_wp2_with fail
  refine (alive_any _).mono ?_
  rintro e w1 ⟨rfl, hb1⟩
  have HB1 := Lib.hid hb1
  have HV1 := Lib.hid (HV.out.later hb1)
  clear hb1 HV
  go_wp2_with fail
  refine (run_any a0 a1 a2 2 1000 a3 cap3 V _ HV1.out (by omega) (.inr (.inr rfl))).mono ?_
  rintro r w2 ⟨W, l, yb, ytb, p, c, T, s, so, N, S, Yf, An, J, g, hR, hTe⟩
  obtain rfl := hR.ret
  have HY := Lib.hid hR.run.yd
  have HB2 := Lib.hid (below_step HB1.out hR.below)
  have hT4 := hR.T4
  have hT1 := hR.T1
  have hn16 := hR.n16
  have hs1 := hR.s1
  have hss4 := hR.s4
  have HEQ := Lib.hid hR.eq
  have hSl : S.length ≤ 300 := by have h := hR.ok.len; have := hR.few; rw [hR.is] at h; omega
  have HTR := Lib.hid hR.run.tr.tr
  have HPT := Lib.hid hR.run.tr
  have HAK := Lib.hid (hR.ok.asks hR.is hR.run.tr)
  have HTM : Hid (∀ m ∈ S, m.k = 2 → m.n ≤ 32768) := Lib.hid (fun m hm => topS_time (T := 1 + a0 % 4) (mode := 2) (most := 1000) V m (by rw [← hTe, hR.is]; exact hm))
  clear hR HB1 HV1 hTe
  go_wp2_with fail
  refine (fin4_any (n := S.length) HY.out HTR.out (by omega) (by show T ≤ 4; omega) (by omega) (by show s ≤ 4; omega) (by show (1 : Int) ≤ 3; decide)).mono ?_
  rintro r w4 ⟨sn, jn, l4, Y4, J4, Yg, rfl, hF⟩
  have hfew := hF.few
  have HYF := Lib.hid hF.yd
  have HTF := Lib.hid hF.tr
  have HAT := Lib.hid hF.at'
  have HID := Lib.hid hF.idle
  have HAF : Hid (AsksOk (Y4.ds.map Dd.ask)) := Lib.hid (by rw [tick_ask hF.tick]; exact HAK.out)
  have hdl : Y4.ds.length ≤ 300 := by rw [tick_ds hF.tick]; have := HY.out.ok.nds; have := HY.out.ok.most; omega
  clear hF HY HTR HPT HAK
  have HTF2 : Hid (YTr ⟨yb, ytb, p, c, T, s, so, 1, T⟩ N Yg (S.length + sn)) := HTF
  have HFACT : Hid (∀ (e i : Nat) (de d : Dd) (r : Int), Y4.ds[e]? = some de → de.kd = 1 → de.ok = false → Y4.ds[i]? = some d → d.kd = 0 → d.ok = true → dBef d de → TkIs Y4.ds d.x r → ∃ (k : Nat) (dk : Dd), r = k ∧ Y4.ds[k]? = some dk ∧ ¬ dBef de dk) := Lib.hid (fun e i de d r h1 h2 h3 h4 h5 h6 h7 h8 => by
    have hat := HAT.out
    have hx := HAF.out.down
    rw [← hat] at h1 h4 h8 hx ⊢
    exact top_empty HTF2.out hx (fun g dg hg _ => idle_over (HTF2.out.all _ (Nat.le_refl _)).ok (fun k hk => by rw [hat]; exact HID.out k hk) hg) h1 h2 h3 h4 h5 h6 h7 h8)
  clear HTF HTF2 HAT HID HAF HTM HEQ
  go_wp2_with fail
  refine (HYF.out.deedsT (by omega) (by show T ≤ 1000; omega)).mono ?_
  rintro r w3 ⟨A3, cp3, tb, rfl, hb3, hD⟩
  have HB3 := Lib.hid (below_step HB2.out (HYF.out.later hb3).h.below)
  have HD := Lib.hid hD
  have hcap := hD.2.1
  have hdl' := hdl
  clear hb3 hD HYF HB2
  generalize Y4.ds = ds at HD HFACT hdl hcap ⊢
  clear hdl'
  obtain ⟨n, hn⟩ : ∃ n, ds.length = n := ⟨_, rfl⟩
  rw [hn] at hdl hcap HD ⊢
  have HN := Lib.hid hn
  clear hn
  go_wp2_with fail
  go_loopw [34] (fun iv wr => ∃ i : Nat, i ≤ n ∧ iv = .int .i64 i ∧ Hid (Below w3.heap.size w3 wr)) (fun iv _ => n - (RowKit.intOf iv).toNat)
  case atStart => exact ⟨0, Nat.zero_le _, rfl, Lib.hid (Below.refl _ _)⟩
  case round =>
    obtain ⟨i, hi, rfl, HB⟩ := hrel
    rcases Nat.lt_or_ge i n with hil | hil
    · have hil' : (i : Int) < (n : Int) := by omega
      obtain ⟨a, ha⟩ : ∃ d, ds[i]? = some d := ⟨_, List.getElem?_eq_getElem (by rw [HN.out]; exact hil)⟩
      obtain ⟨rfl, htb, hat⟩ := (HD.out.less HB.out).one0 ha
      obtain ⟨d0, d1, d2, d3, d4, d5, d6, d7, d8, d9, d10⟩ := hat
      have HG := Lib.hid ha
      clear ha
      have HBN := Lib.hid (fun o => below_new HB.out o)
      by_cases hk : a.kd = 1
      case neg =>
        have hkb : (a.kd != 1) = true := by simp [hk]
        clear hk
        go_wp2_with fail
        go_roundw
        case rel => exact ⟨i + 1, by omega, by go_num, Lib.hid (HBN.out _)⟩
        case measure => first | omega | (simp [RowKit.intOf]; done) | (simp [RowKit.intOf]; omega)
      case pos =>
      have hkb : (a.kd != 1) = false := by simp [hk]
      have HK := Lib.hid hk
      clear hk
      obtain ⟨ok, hok⟩ : ∃ ok, a.ok = ok := ⟨_, rfl⟩
      rw [hok] at d7
      have HOK := Lib.hid hok
      clear hok
      cases ok
      case true =>
        go_wp2_with fail
        go_roundw
        case rel => exact ⟨i + 1, by omega, by go_num, Lib.hid (HBN.out _)⟩
        case measure => first | omega | (simp [RowKit.intOf]; done) | (simp [RowKit.intOf]; omega)
      case false =>
      have hAB : Hid (AtBd (wr.alloc (.cells #[.int .i64 a.who, .int .i64 a.kd, .int .i64 a.e, .int .u64 a.x, .int .i64 a.s, .int .i64 a.fr, .int .i64 a.till, .bool false, .int .u64 a.v, .int .i64 a.lo, .int .i64 a.hi] 39)) wr.heap.size a) := Lib.hid (by
        have h := AtBd.made wr a 39
        unfold Dd.obj at h
        rw [HOK.out] at h
        exact h)
      go_wp2_with fail
      clear d0 d1 d2 d3 d4 d5 d6 d7 d8 d9 d10 hkb
      have HBg := Lib.hid (HBN.out (.cells #[.int .i64 a.who, .int .i64 a.kd, .int .i64 a.e, .int .u64 a.x, .int .i64 a.s, .int .i64 a.fr, .int .i64 a.till, .bool false, .int .u64 a.v, .int .i64 a.lo, .int .i64 a.hi] 39))
      generalize (wr.alloc (.cells #[.int .i64 a.who, .int .i64 a.kd, .int .i64 a.e, .int .u64 a.x, .int .i64 a.s, .int .i64 a.fr, .int .i64 a.till, .bool false, .int .u64 a.v, .int .i64 a.lo, .int .i64 a.hi] 39)) = wg at hAB HBg ⊢
      generalize wr.heap.size = gb at hAB ⊢
      clear HBN HB htb
      go_loopw [49] (fun jv wr => ∃ (j : Nat), j ≤ n ∧ jv = .int .i64 j ∧ Hid (Below wg.heap.size wg wr)) (fun jv _ => n - (RowKit.intOf jv).toNat)
      case atStart => exact ⟨0, Nat.zero_le _, rfl, Lib.hid (Below.refl _ _)⟩
      case round =>
        obtain ⟨j, hj, rfl, HBj⟩ := hrel
        rcases Nat.lt_or_ge j n with hjl | hjl
        · have hjl' : (j : Int) < (n : Int) := by omega
          obtain ⟨b, hb⟩ : ∃ d, ds[j]? = some d := ⟨_, List.getElem?_eq_getElem (by rw [HN.out]; exact hjl)⟩
          obtain ⟨_, htb, hat⟩ := (HD.out.less (below_step HBg.out HBj.out)).one0 hb
          obtain ⟨d0, d1, d2, d3, d4, d5, d6, d7, d8, d9, d10⟩ := hat
          obtain ⟨e0, e1, e2, e3, e4, e5, e6, e7, e8, e9, e10⟩ := hAB.out.later HBj.out
          have hgb := World.block_lt_of_cell? _ _ e0
          have HDD := Lib.hid hb
          have HBk := Lib.hid (fun o => below_new HBj.out o)
          clear hb
          by_cases hk0 : b.kd = 0
          case neg =>
            have hkb : (b.kd != 0) = true := by simp [hk0]
            clear hk0
            go_wp2_with fail
            go_roundw
            case rel => exact ⟨j + 1, by omega, by go_num, Lib.hid (HBk.out _)⟩
            case measure => first | omega | (simp [RowKit.intOf]; done) | (simp [RowKit.intOf]; omega)
          case pos =>
          have hkb : (b.kd != 0) = false := by simp [hk0]
          have HK0 := Lib.hid hk0
          clear hk0
          obtain ⟨bo, hbo⟩ : ∃ bo, b.ok = bo := ⟨_, rfl⟩
          rw [hbo] at d7
          have HBO := Lib.hid hbo
          clear hbo
          cases bo
          case false =>
            go_wp2_with fail
            go_roundw
            case rel => exact ⟨j + 1, by omega, by go_num, Lib.hid (HBk.out _)⟩
            case measure => first | omega | (simp [RowKit.intOf]; done) | (simp [RowKit.intOf]; omega)
          case true =>
          have HPB : Hid (AtBd (wr.alloc (.cells #[.int .i64 b.who, .int .i64 b.kd, .int .i64 b.e, .int .u64 b.x, .int .i64 b.s, .int .i64 b.fr, .int .i64 b.till, .bool true, .int .u64 b.v, .int .i64 b.lo, .int .i64 b.hi] 39)) wr.heap.size b) := Lib.hid (by
            have h := AtBd.made wr b 39
            unfold Dd.obj at h
            rw [HBO.out] at h
            exact h)
          go_wp2_with fail
          refine (tbefore_any _ { b with ok := true } a).mono ?_
          rintro r w6 ⟨rfl, hb6⟩
          have HB6 := Lib.hid (below_step (HBk.out _) hb6)
          have HP6 := Lib.hid (HPB.out.later hb6)
          clear hb6 HPB d0 d1 d2 d3 d4 d5 d6 d7 d8 d9 d10 e0 e1 e2 e3 e4 e5 e6 e7 e8 e9 e10 hgb htb
          by_cases hbf : dBef b a
          case neg =>
            rw [show decide (dBef { b with ok := true } a) = false from decide_eq_false hbf]
            clear hbf
            go_wp2_with fail
            go_roundw
            case rel => exact ⟨j + 1, by omega, by go_num, HB6⟩
            case measure => first | omega | (simp [RowKit.intOf]; done) | (simp [RowKit.intOf]; omega)
          case pos =>
          rw [show decide (dBef { b with ok := true } a) = true from decide_eq_true hbf]
          have HBF := Lib.hid hbf
          clear hbf
          obtain ⟨p0, p1, p2, p3, p4, p5, p6, p7, p8, p9, p10⟩ := HP6.out
          go_wp2_with fail
          refine (ttaken_any (some ⟨tb, 0, none⟩) n cp3 tb 0 ds b.x w6 (HD.out.less (below_step HBg.out HB6.out)) (by omega)).mono ?_
          rintro r w7 ⟨kk, rfl, hkk, _, _, hb7⟩
          obtain ⟨kq, dk, rfl, hdk, hnb⟩ := HFACT.out i j a b kk HG.out HK.out HOK.out HDD.out HK0.out HBO.out HBF.out hkk
          have HB7 := Lib.hid (below_step HB6.out hb7)
          have hlt := (List.getElem?_eq_some_iff.1 hdk).1
          rw [HN.out] at hlt
          have hlt' : (kq : Int) < (n : Int) := by omega
          have hlt2 : ¬ (kq : Int) < 0 := by omega
          clear hkk hb7 p0 p1 p2 p3 p4 p5 p6 p7 p8 p9 p10 HP6
          have hS : ∀ wx, Below w7.drew.heap.size w7.drew wx → AtBd wx gb a ∧ AtDd wx tb (kq * 11) dk := fun wx hb => by
            have h1 := below_step HB7.out.drew hb
            exact ⟨hAB.out.later h1, ((HD.out.less (below_step HBg.out h1)).one0 hdk).2.2⟩
          have HS := Lib.hid hS
          have HNB := Lib.hid hnb
          clear hS hdk hnb
          go_wp2_with fail
          refine wp_region_seqS ((fun wx => AtBd wx gb a ∧ AtDd wx tb (kq * 11) dk)) ((0, true) :: (1, true) :: (2, true) :: (3, true) :: (4, true) :: (5, true) :: (6, true) :: (7, true) :: (8, false) :: (9, true) :: []) (by kernel_rfl) (by kernel_rfl) (by kernel_rfl) (by decide) (fun _ _ _ _ _ h => h) ((HS.out _ (Below.refl _ _))) ?_
          repeat (first | (refine seq_take (v := ?_) rfl ?_ ?_ ?_; rotate_left 1; rfl; (focus (intro wS hSw; obtain ⟨⟨e0, e1, e2, e3, e4, e5, e6, e7, e8, e9, e10⟩, ⟨q0, q1, q2, q3, q4, q5, q6, q7, q8, q9, q10⟩⟩ := hSw; go_simp; first | done | with_reducible rfl)); (try simp only [Act.put, List.setIfInBounds_toArray, List.set_cons_zero, List.set_cons_succ])) | (refine seq_skip rfl ?_ ?_; rfl; (try simp only [Act.put, List.setIfInBounds_toArray, List.set_cons_zero, List.set_cons_succ])))
          refine seq_run rfl (fun K hK => ?_)
          go_simp
          go_at_call 19
          refine (tbefore_any _ a dk).mono ?_
          rintro r w8 ⟨rfl, hb8⟩
          (try go_wp2_with fail)
          rw [decide_eq_false HNB.out]
          refine hK.out _ _ (HS.out _ hb8) (fun _ => ?_)
          (try simp only [Act.put, List.setIfInBounds_toArray, List.set_cons_zero, List.set_cons_succ])
          clear hK K
          repeat (first | (refine seq_take (v := ?_) rfl ?_ ?_ ?_; rotate_left 1; rfl; (focus (intro wS hSw; obtain ⟨⟨e0, e1, e2, e3, e4, e5, e6, e7, e8, e9, e10⟩, ⟨q0, q1, q2, q3, q4, q5, q6, q7, q8, q9, q10⟩⟩ := hSw; go_simp; first | done | with_reducible rfl)); (try simp only [Act.put, List.setIfInBounds_toArray, List.set_cons_zero, List.set_cons_succ])) | (refine seq_skip rfl ?_ ?_; rfl; (try simp only [Act.put, List.setIfInBounds_toArray, List.set_cons_zero, List.set_cons_succ])))
          refine seq_done ?_
          have HB8 := Lib.hid (below_step HB7.out.drew hb8)
          clear hb8
          go_wp2_with fail
          go_roundw
          case rel => exact ⟨j + 1, by omega, by go_num, HB8⟩
          case measure => first | omega | (simp [RowKit.intOf]; done) | (simp [RowKit.intOf]; omega)
        · obtain rfl : j = n := by omega
          have hnn : ¬ (j : Int) < (j : Int) := by omega
          have HBz := Lib.hid (below_step HBg.out HBj.out)
          go_wp2_with fail
          go_roundw
          case rel => exact ⟨i + 1, by omega, by go_num, HBz⟩
          case measure => first | omega | (simp [RowKit.intOf]; done) | (simp [RowKit.intOf]; omega)
    · obtain rfl : i = n := by omega
      have hnn : ¬ (i : Int) < (i : Int) := by omega
      have HZ := Lib.hid (below_step HB3.out HB.out)
      go_wp2_with fail
      go_ret
      exact ⟨rfl, HZ.out⟩
end Go.Proofs.YtpfjommkjkbonabGreat
