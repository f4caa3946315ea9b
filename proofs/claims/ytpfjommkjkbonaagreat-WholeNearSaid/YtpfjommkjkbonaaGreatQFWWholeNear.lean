/-
  WholeNear answers true for all numbers and lists of moves, and leaves all memory that was there as it was. No condition.
-/
import Derived.Test.YtpfjommkjkbonaaGreatQF11
namespace Go.Proofs.YtpfjommkjkbonaaGreat
open Go.RowKit
set_option linter.unusedVariables false

/-- Which call put in what was had: one of the first j, or none of them. -/
def OwnIs (ds : List Dd) (v : Int) (j : Nat) (o : Int) : Prop := (o = -1 ∧ ∀ (i : Nat) (d : Dd), i < j → ds[i]? = some d → d.kd = 0 → d.x ≠ v) ∨ ∃ (i : Nat) (d : Dd), o = i ∧ i < j ∧ ds[i]? = some d ∧ d.kd = 0 ∧ d.x = v

set_option maxRecDepth 100000 in
set_option maxHeartbeats 8000000 in
theorem walk_WholeNear (a0 : Int) (a1 : Int) (a2 : Int) (a3 : Option Addr) (len3 cap3 : Nat) (w : World) (w0 : (Lit.int .i64 a0).wf = true) (w1 : (Lit.int .i64 a1).wf = true) (w2 : (Lit.int .i64 a2).wf = true) (w3 : IsRows w [.inl .i64, .inl .i64, .inl .i64, .inl .i64, .inr true, .inr true, .inl .u64, .inl .i64] a3 len3 cap3) :
    Calls Tryz.prog 10 #[.int .i64 a0, .int .i64 a1, .int .i64 a2, .slice a3 len3 cap3] w fun e w' => e = .returned (.bool true) ∧ Below w.heap.size w w' := by
  clear w0 w1 w2
  obtain ⟨V, rfl, hV⟩ := zBU w3
  have HV := zIa hV
  clear w3 hV
  rcases Nat.lt_or_ge 300 V.length with hbig | hs4
  · have hbig' : (300 : Int) < (V.length : Int) := by omega
    go_enter Tryz.func10, Tryz.ntmps10
    go_wp2_with fail
    refine (zBh _).mono ?_
    rintro e w1 ⟨rfl, hb1⟩
    go_wp2_with fail
    go_ret
    exact ⟨rfl, hb1⟩
  have hs5 : ¬ (300 : Int) < (V.length : Int) := by omega
  go_enter Tryz.func10, Tryz.ntmps10
  go_wp2_with fail
  refine (zBh _).mono ?_
  rintro e w1 ⟨rfl, hb1⟩
  have HB1 := zIa hb1
  have HV1 := zIa (HV.out.later hb1)
  clear hb1 HV
  go_wp2_with fail

  refine (zFj a0 a1 a2 2 1000 a3 cap3 V _ HV1.out (by omega) (.inr (.inr rfl))).mono ?_
  rintro r w2 ⟨W, l, yb, ytb, p, c, T, s, so, N, S, Yf, An, J, g, hR, hTe⟩
  obtain rfl := hR.ret
  have HY := zIa hR.run.yd
  have HB2 := zIa (zAB HB1.out hR.below)
  have hT4 := hR.T4
  have hn16 := hR.n16
  have hak := hR.ok.asks hR.is hR.run.tr
  have hSl : S.length ≤ 300 := by have h := hR.ok.len; have := hR.few; rw [hR.is] at h; omega
  have HTR := zIa hR.run.tr.tr
  have HAK := zIa hak
  clear hR hak HB1 HV1 hTe
  obtain ⟨m, hm⟩ : ∃ m, S.length = m := ⟨_, rfl⟩
  rw [hm] at HY HTR HAK hSl
  clear hm
  have HX := zIa HAK.out.down
  have HNR := zIa (fun (g io ip : Nat) (dg do' dp : Dd) (r : Int) hg gk go ho ok ov hp pk po hb hr hk => zDQ (g := g) (io := io) (ip := ip) (dg := dg) (do' := do') (dp := dp) (r := r) HTR.out (show N < 1048576 by omega) HX.out hg gk go (HAK.out.dkind (List.mem_of_getElem? hg)).2 ho ok ov hp pk po hb hr hk)
  have HON := zIa (fun (g : Nat) (dg : Dd) hg gk go => zEz (g := g) (dg := dg) HTR.out HX.out hg gk go)
  clear HTR HX HAK
  generalize hYe : Yf m = Y at HY HNR HON
  clear hYe
  go_wp2_with fail
  refine (HY.out.deedsT (by omega) (by show T ≤ 1000; omega)).mono ?_
  rintro r w3 ⟨A3, cp3, tb, rfl, hb3, hD⟩
  have HB3 := zIa (zAB HB2.out (HY.out.later hb3).h.below)
  have HD := zIa hD
  have hdl : Y.ds.length ≤ 300 := by have := HY.out.ok.nds; have := HY.out.ok.most; omega
  have hcap := hD.2.1
  clear hb3 hD HY HB2
  generalize Y.ds = ds at HD HNR HON hdl hcap ⊢
  obtain ⟨n, hn⟩ : ∃ n, ds.length = n := ⟨_, rfl⟩
  rw [hn] at hdl hcap HD ⊢
  have HN := zIa hn
  clear hn
  go_wp2_with fail
  go_loopw [35] (fun iv wr => ∃ i : Nat, i ≤ n ∧ iv = .int .i64 i ∧ Hid (Below w3.heap.size w3 wr)) (fun iv _ => n - (RowKit.intOf iv).toNat)
  case atStart => exact ⟨0, Nat.zero_le _, rfl, zIa (Below.refl _ _)⟩
  case round =>
    obtain ⟨i, hi, rfl, HB⟩ := hrel
    rcases Nat.lt_or_ge i n with hil | hil
    · have hil' : (i : Int) < (n : Int) := by omega
      obtain ⟨dg, hdg⟩ : ∃ d, ds[i]? = some d := ⟨_, List.getElem?_eq_getElem (by rw [HN.out]; exact hil)⟩
      obtain ⟨rfl, htb, hat⟩ := (HD.out.less HB.out).one0 hdg
      obtain ⟨d0, d1, d2, d3, d4, d5, d6, d7, d8, d9, d10⟩ := hat
      have HG := zIa hdg
      clear hdg
      have HBN := zIa (fun o => zAA HB.out o)
      by_cases hk : dg.kd = 1
      case neg =>
        have hkb : (dg.kd != 1) = true := by simp [hk]
        clear hk
        go_wp2_with fail
        go_roundw
        case rel => exact ⟨i + 1, by omega, by go_num, zIa (HBN.out _)⟩
        case measure => first | omega | (simp [RowKit.intOf]; done) | (simp [RowKit.intOf]; omega)
      case pos =>
      have hkb : (dg.kd != 1) = false := by simp [hk]
      have HK := zIa hk
      clear hk
      obtain ⟨ok, hok⟩ : ∃ ok, dg.ok = ok := ⟨_, rfl⟩
      rw [hok] at d7
      have HOK := zIa hok
      clear hok
      cases ok
      case false =>
        go_wp2_with fail
        go_roundw
        case rel => exact ⟨i + 1, by omega, by go_num, zIa (HBN.out _)⟩
        case measure => first | omega | (simp [RowKit.intOf]; done) | (simp [RowKit.intOf]; omega)
      case true =>
      have hAB : Hid (AtBd (wr.alloc (.cells #[.int .i64 dg.who, .int .i64 dg.kd, .int .i64 dg.e, .int .u64 dg.x, .int .i64 dg.s, .int .i64 dg.fr, .int .i64 dg.till, .bool true, .int .u64 dg.v, .int .i64 dg.lo, .int .i64 dg.hi] 76)) wr.heap.size dg) := zIa (by
        have h := AtBd.made wr dg 76
        unfold Dd.obj at h
        rw [HOK.out] at h
        exact h)
      go_wp2_with fail
      clear d0 d1 d2 d3 d4 d5 d6 d7 d8 d9 d10 hkb
      have HBg := zIa (HBN.out (.cells #[.int .i64 dg.who, .int .i64 dg.kd, .int .i64 dg.e, .int .u64 dg.x, .int .i64 dg.s, .int .i64 dg.fr, .int .i64 dg.till, .bool true, .int .u64 dg.v, .int .i64 dg.lo, .int .i64 dg.hi] 76))
      generalize (wr.alloc (.cells #[.int .i64 dg.who, .int .i64 dg.kd, .int .i64 dg.e, .int .u64 dg.x, .int .i64 dg.s, .int .i64 dg.fr, .int .i64 dg.till, .bool true, .int .u64 dg.v, .int .i64 dg.lo, .int .i64 dg.hi] 76)) = wg at hAB HBg ⊢
      generalize wr.heap.size = gb at hAB ⊢
      clear HBN HB htb
      go_loopw [13, 51] (fun ov jv wr => ∃ (j : Nat) (o : Int), j ≤ n ∧ -1 ≤ o ∧ o ≤ 300 ∧ ov = .int .i64 o ∧ jv = .int .i64 j ∧ Hid (Below wg.heap.size wg wr) ∧ Hid (OwnIs ds dg.v j o)) (fun _ jv _ => n - (RowKit.intOf jv).toNat)
      case atStart => exact ⟨0, -1, Nat.zero_le _, by omega, by omega, rfl, rfl, zIa (Below.refl _ _), zIa (.inl ⟨rfl, fun i d hi => absurd hi (Nat.not_lt_zero _)⟩)⟩
      case round =>
        obtain ⟨j, o, hj, ho0, ho1, rfl, rfl, HBj, HO⟩ := hrel
        rcases Nat.lt_or_ge j n with hjl | hjl
        · have hjl' : (j : Int) < (n : Int) := by omega
          obtain ⟨d, hd⟩ : ∃ d, ds[j]? = some d := ⟨_, List.getElem?_eq_getElem (by rw [HN.out]; exact hjl)⟩
          obtain ⟨_, htb, hat⟩ := (HD.out.less (zAB HBg.out HBj.out)).one0 hd
          obtain ⟨d0, d1, d2, d3, d4, d5, d6, d7, d8, d9, d10⟩ := hat
          obtain ⟨e0, e1, e2, e3, e4, e5, e6, e7, e8, e9, e10⟩ := hAB.out.later HBj.out
          have hgb := World.block_lt_of_cell? _ _ e0
          have HDD := zIa hd
          have HBk := zIa (zAA HBj.out (d.obj 76))
          clear hd
          have hno : ¬ (d.kd = 0 ∧ d.x = dg.v) → OwnIs ds dg.v (j + 1) o := fun hn => by
            rcases HO.out with ⟨q1, q2⟩ | ⟨i', d', q1, q2, q3⟩
            · refine .inl ⟨q1, fun i2 d2 h1 h2 h3 h4 => ?_⟩
              by_cases e : i2 = j
              · subst e
                rw [HDD.out] at h2
                cases h2
                exact hn ⟨h3, h4⟩
              · exact q2 i2 d2 (by omega) h2 h3 h4
            · exact .inr ⟨i', d', q1, by omega, q3⟩
          have HNO := zIa hno
          clear hno
          by_cases hk0 : d.kd = 0
          · have hkb : (d.kd == 0) = true := by rw [hk0]; rfl
            by_cases hx : d.x = dg.v
            · have hxb : (d.x == dg.v) = true := by rw [hx]; exact beq_self_eq_true _
              have HYES : Hid (OwnIs ds dg.v (j + 1) (j : Int)) := zIa (.inr ⟨j, d, rfl, by omega, HDD.out, hk0, hx⟩)
              clear hk0 hx
              go_wp2_with fail
              go_roundw
              case rel => exact ⟨j + 1, j, by omega, by omega, by omega, rfl, by go_num, HBk, HYES⟩
              case measure => first | omega | (simp [RowKit.intOf]; done) | (simp [RowKit.intOf]; omega)
            · have hxb : (d.x == dg.v) = false := beq_false_of_ne hx
              have HNN := zIa (HNO.out (fun q => hx q.2))
              clear hk0 hx
              go_wp2_with fail
              go_roundw
              case rel => exact ⟨j + 1, o, by omega, ho0, ho1, rfl, by go_num, HBk, HNN⟩
              case measure => first | omega | (simp [RowKit.intOf]; done) | (simp [RowKit.intOf]; omega)
          · have hkb : (d.kd == 0) = false := beq_false_of_ne hk0
            have HNN := zIa (HNO.out (fun q => hk0 q.1))
            clear hk0
            go_wp2_with fail
            go_roundw
            case rel => exact ⟨j + 1, o, by omega, ho0, ho1, rfl, by go_num, HBk, HNN⟩
            case measure => first | omega | (simp [RowKit.intOf]; done) | (simp [RowKit.intOf]; omega)
        · obtain rfl : j = n := by omega
          have hnn : ¬ (j : Int) < (j : Int) := by omega
          obtain ⟨io, od, rfl, hio, hod, hok0, hox⟩ : ∃ (i : Nat) (d : Dd), o = i ∧ i < j ∧ ds[i]? = some d ∧ d.kd = 0 ∧ d.x = dg.v := by
            rcases HO.out with ⟨_, q⟩ | q
            · obtain ⟨i1, d1, g1, g2, g3, _⟩ := HON.out i dg HG.out HK.out HOK.out
              exact absurd g3 (q i1 d1 (by have := (List.getElem?_eq_some_iff.1 g1).1; rw [HN.out] at this; exact this) g1 g2)
            · exact q
          have HOD := zIa (And.intro hod (And.intro hok0 hox))
          have hio' : (io : Int) < (j : Int) := by omega
          have hioc : ¬ (io : Int) < 0 := by omega
          have HBo := zIa HBj.out
          clear hod hok0 hox HO HBj ho0 ho1
          go_wp2_with fail
          go_loopw [75] (fun kv wx => ∃ k : Nat, k ≤ j ∧ kv = .int .i64 k ∧ Hid (Below wg.heap.size wg wx)) (fun kv _ => j - (RowKit.intOf kv).toNat)
          case atStart => exact ⟨0, Nat.zero_le _, rfl, HBo⟩
          case round =>
            clear HBo
            obtain ⟨k, hk, rfl, HBk⟩ := hrel
            rcases Nat.lt_or_ge k j with hkl | hkl
            · have hkl' : (k : Int) < (j : Int) := by omega
              obtain ⟨d, hd⟩ : ∃ d, ds[k]? = some d := ⟨_, List.getElem?_eq_getElem (by rw [HN.out]; exact hkl)⟩
              obtain ⟨_, htb, hat⟩ := (HD.out.less (zAB HBg.out HBk.out)).one0 hd
              obtain ⟨d0, d1, d2, d3, d4, d5, d6, d7, d8, d9, d10⟩ := hat
              obtain ⟨e0, e1, e2, e3, e4, e5, e6, e7, e8, e9, e10⟩ := hAB.out.later HBk.out
              have hgb := World.block_lt_of_cell? _ _ e0
              have HDD := zIa hd
              have HBN := zIa (fun o => zAA HBk.out o)
              clear hd
              by_cases hk0 : d.kd = 0
              case neg =>
                have hkb : (d.kd != 0) = true := by simp [hk0]
                clear hk0
                go_wp2_with fail
                go_roundw
                case rel => exact ⟨k + 1, by omega, by go_num, zIa (HBN.out _)⟩
                case measure => first | omega | (simp [RowKit.intOf]; done) | (simp [RowKit.intOf]; omega)
              case pos =>
              have hkb : (d.kd != 0) = false := by simp [hk0]
              have HK0 := zIa hk0
              clear hk0
              obtain ⟨po, hpo⟩ : ∃ po, d.ok = po := ⟨_, rfl⟩
              rw [hpo] at d7
              have HPO := zIa hpo
              clear hpo
              cases po
              case false =>
                go_wp2_with fail
                go_roundw
                case rel => exact ⟨k + 1, by omega, by go_num, zIa (HBN.out _)⟩
                case measure => first | omega | (simp [RowKit.intOf]; done) | (simp [RowKit.intOf]; omega)
              case true =>
              by_cases hx : d.x = dg.v
              case pos =>
                have hxb : (d.x == dg.v) = true := by rw [hx]; exact beq_self_eq_true _
                clear hx
                go_wp2_with fail
                go_roundw
                case rel => exact ⟨k + 1, by omega, by go_num, zIa (HBN.out _)⟩
                case measure => first | omega | (simp [RowKit.intOf]; done) | (simp [RowKit.intOf]; omega)
              case neg =>
              have hxb : (d.x == dg.v) = false := beq_false_of_ne hx
              clear hx
              go_wp2_with fail
              refine (zAs _ { d with ok := true } dg).mono ?_
              rintro r w5 ⟨rfl, hb5⟩
              have HB5 := zIa (zAB (HBN.out _) hb5)
              have HP5 : Hid (AtBd w5 wr.heap.size d) := zIa (by
                have h := AtBd.made wr d 76
                unfold Dd.obj at h
                rw [HPO.out] at h
                exact h.later hb5)
              clear hb5
              by_cases hbf : dBef d dg
              case neg =>
                rw [show decide (dBef { d with ok := true } dg) = false from decide_eq_false hbf]
                clear hbf
                go_wp2_with fail
                go_roundw
                case rel => exact ⟨k + 1, by omega, by go_num, HB5⟩
                case measure => first | omega | (simp [RowKit.intOf]; done) | (simp [RowKit.intOf]; omega)
              case pos =>
              rw [show decide (dBef { d with ok := true } dg) = true from decide_eq_true hbf]
              have HBF := zIa hbf
              clear hbf
              obtain ⟨p0, p1, p2, p3, p4, p5, p6, p7, p8, p9, p10⟩ := HP5.out
              have hpb := World.block_lt_of_cell? _ _ p0
              clear d0 d1 d2 d3 d4 d5 d6 d7 d8 d9 d10 e0 e1 e2 e3 e4 e5 e6 e7 e8 e9 e10 hgb htb
              go_wp2_with fail
              refine (zCn (some ⟨tb, 0, none⟩) j cp3 tb 0 ds d.x w5 (HD.out.less (zAB HBg.out HB5.out)) (by omega)).mono ?_
              rintro r w6 ⟨kk, rfl, hkk, hq0, hq1, hb6⟩
              have HB6 := zIa (zAB HB5.out hb6)
              have HTK := zIa hkk
              have HNF := zIa (fun hk => HNR.out i io k dg od d kk HG.out HK.out HOK.out HOD.out.1 HOD.out.2.1 HOD.out.2.2 HDD.out HK0.out HPO.out HBF.out hkk hk)
              have HGB := zIa (hAB.out.later HB6.out)
              have HPB := zIa (HP5.out.later hb6)
              clear hkk hb6 p0 p1 p2 p3 p4 p5 p6 p7 p8 p9 p10 hpb HP5
              generalize hpbe : wr.heap.size = pb at HPB ⊢
              clear hpbe
              have HBd := zIa HB6.out.drew
              have hdr : Below w6.heap.size w6 w6.drew := (Below.refl _ _).drew
              have HGd := zIa (HGB.out.later hdr)
              have HPd := zIa (HPB.out.later hdr)
              have HDd := zIa (HD.out.less (zAB HBg.out HBd.out))
              clear hdr HGB HPB
              have hio2 : AtDd w6.drew tb (io * 11) od := ((HDd.out).one0 HOD.out.1).2.2
              have HIO := zIa hio2
              clear hio2
              go_wp2_with fail
              have hjl2 : ¬ (j : Int) ≤ (io : Int) := by omega
              have hio3 : io < j := by omega
              rcases HTK.out.is with ⟨hkm, _⟩ | ⟨kq, dk, hkq, hdk, _⟩
              · subst hkm
                have hS : ∀ wx, Below w6.drew.heap.size w6.drew wx → AtBd wx gb dg ∧ AtBd wx pb d ∧ AtDd wx tb (io * 11) od := fun wx hb => ⟨HGd.out.later hb, HPd.out.later hb, HIO.out.later hb⟩
                have HS := zIa hS
                clear hS
                refine zAE ((fun wx => AtBd wx gb dg ∧ AtBd wx pb d ∧ AtDd wx tb (io * 11) od)) ((0, true) :: (1, true) :: (2, true) :: (3, true) :: (4, false) :: (5, true) :: (6, true) :: (7, true) :: (8, true) :: (9, true) :: (10, true) :: (11, true) :: (12, true) :: (13, true) :: (14, true) :: (15, true) :: (16, false) :: (17, true) :: (18, true) :: (19, true) :: (20, true) :: (21, true) :: (22, true) :: (23, true) :: (24, true) :: (25, true) :: (26, true) :: (27, true) :: (28, false) :: (29, true) :: []) (by kernel_rfl) (by kernel_rfl) (by kernel_rfl) (by decide) (fun _ _ _ _ _ h => h) ((HS.out _ (Below.refl _ _))) ?_
                repeat (first | (refine zAC (v := ?_) rfl ?_ ?_ ?_; rotate_left 1; rfl; (focus (intro wS hSw; obtain ⟨⟨e0, e1, e2, e3, e4, e5, e6, e7, e8, e9, e10⟩, ⟨p0, p1, p2, p3, p4, p5, p6, p7, p8, p9, p10⟩, ⟨o0, o1, o2, o3, o4, o5, o6, o7, o8, o9, o10⟩⟩ := hSw; go_simp; first | done | with_reducible rfl)); (try simp only [Act.put, List.setIfInBounds_toArray, List.set_cons_zero, List.set_cons_succ])) | (refine zAD rfl ?_ ?_; rfl; (try simp only [Act.put, List.setIfInBounds_toArray, List.set_cons_zero, List.set_cons_succ])))
                refine zAF rfl (fun K hK => ?_)
                go_simp
                go_at_call 33
                refine (zCh (some ⟨tb, 0, none⟩) j cp3 tb 0 ds _ HDd.out (by omega)).mono ?_
                rintro r w8 ⟨pn, rfl, hpn, hpl, hb8⟩
                (try go_wp2_with fail)
                refine hK.out _ _ (HS.out _ hb8) (fun _ => ?_)
                (try simp only [Act.put, List.setIfInBounds_toArray, List.set_cons_zero, List.set_cons_succ])
                clear hK K
                by_cases hp0 : pn = 0
                · subst hp0
                  have HPN := zIa (hpn (by first | rfl | trivial))
                  clear hpn
                  repeat (first | (refine zAC (v := ?_) rfl ?_ ?_ ?_; rotate_left 1; rfl; (focus (intro wS hSw; obtain ⟨⟨e0, e1, e2, e3, e4, e5, e6, e7, e8, e9, e10⟩, ⟨p0, p1, p2, p3, p4, p5, p6, p7, p8, p9, p10⟩, ⟨o0, o1, o2, o3, o4, o5, o6, o7, o8, o9, o10⟩⟩ := hSw; go_simp; first | done | with_reducible rfl)); (try simp only [Act.put, List.setIfInBounds_toArray, List.set_cons_zero, List.set_cons_succ])) | (refine zAD rfl ?_ ?_; rfl; (try simp only [Act.put, List.setIfInBounds_toArray, List.set_cons_zero, List.set_cons_succ])))
                  refine zAF rfl (fun K hK => ?_)
                  go_simp
                  refine hK.out _ _ (HS.out _ hb8) (fun _ => ?_)
                  (try simp only [Act.put, List.setIfInBounds_toArray, List.set_cons_zero, List.set_cons_succ])
                  clear hK K
                  repeat (first | (refine zAC (v := ?_) rfl ?_ ?_ ?_; rotate_left 1; rfl; (focus (intro wS hSw; obtain ⟨⟨e0, e1, e2, e3, e4, e5, e6, e7, e8, e9, e10⟩, ⟨p0, p1, p2, p3, p4, p5, p6, p7, p8, p9, p10⟩, ⟨o0, o1, o2, o3, o4, o5, o6, o7, o8, o9, o10⟩⟩ := hSw; go_simp; first | done | with_reducible rfl)); (try simp only [Act.put, List.setIfInBounds_toArray, List.set_cons_zero, List.set_cons_succ])) | (refine zAD rfl ?_ ?_; rfl; (try simp only [Act.put, List.setIfInBounds_toArray, List.set_cons_zero, List.set_cons_succ])))
                  refine zAF rfl (fun K hK => ?_)
                  go_simp
                  go_at_call 34
                  refine (zBX dg.e d od _).mono ?_
                  rintro r w10 ⟨y, rfl, hy, hb10⟩
                  have hb10' := zAB hb8 hb10
                  obtain rfl : y = false := by
                    cases y with
                    | false => rfl
                    | true => exact absurd (hy rfl) (HNF.out (.inl ⟨by decide, fun k dk h1 h2 => HPN.out k dk h1 h2⟩))
                  (try go_wp2_with fail)
                  refine hK.out _ _ (HS.out _ hb10') (fun _ => ?_)
                  (try simp only [Act.put, List.setIfInBounds_toArray, List.set_cons_zero, List.set_cons_succ])
                  clear hK K
                  clear hy hb10
                  repeat (first | (refine zAC (v := ?_) rfl ?_ ?_ ?_; rotate_left 1; rfl; (focus (intro wS hSw; obtain ⟨⟨e0, e1, e2, e3, e4, e5, e6, e7, e8, e9, e10⟩, ⟨p0, p1, p2, p3, p4, p5, p6, p7, p8, p9, p10⟩, ⟨o0, o1, o2, o3, o4, o5, o6, o7, o8, o9, o10⟩⟩ := hSw; go_simp; first | done | with_reducible rfl)); (try simp only [Act.put, List.setIfInBounds_toArray, List.set_cons_zero, List.set_cons_succ])) | (refine zAD rfl ?_ ?_; rfl; (try simp only [Act.put, List.setIfInBounds_toArray, List.set_cons_zero, List.set_cons_succ])))
                  refine zAI ?_
                  have HBQ := zIa (zAB HBd.out hb10')
                  clear hb10'
                  go_wp2_with fail
                  go_roundw
                  case rel => exact ⟨k + 1, by omega, by go_num, HBQ⟩
                  case measure => first | omega | (simp [RowKit.intOf]; done) | (simp [RowKit.intOf]; omega)
                · have hpb : ((pn : Int) == 0) = false := beq_false_of_ne (by omega)
                  have hpb2 : ¬ pn = 0 := hp0
                  clear hpn hp0
                  repeat (first | (refine zAC (v := ?_) rfl ?_ ?_ ?_; rotate_left 1; rfl; (focus (intro wS hSw; obtain ⟨⟨e0, e1, e2, e3, e4, e5, e6, e7, e8, e9, e10⟩, ⟨p0, p1, p2, p3, p4, p5, p6, p7, p8, p9, p10⟩, ⟨o0, o1, o2, o3, o4, o5, o6, o7, o8, o9, o10⟩⟩ := hSw; go_simp; first | done | with_reducible rfl)); (try simp only [Act.put, List.setIfInBounds_toArray, List.set_cons_zero, List.set_cons_succ])) | (refine zAD rfl ?_ ?_; rfl; (try simp only [Act.put, List.setIfInBounds_toArray, List.set_cons_zero, List.set_cons_succ])))
                  refine zAF rfl (fun K hK => ?_)
                  go_simp
                  refine hK.out _ _ (HS.out _ hb8) (fun _ => ?_)
                  (try simp only [Act.put, List.setIfInBounds_toArray, List.set_cons_zero, List.set_cons_succ])
                  clear hK K
                  repeat (first | (refine zAC (v := ?_) rfl ?_ ?_ ?_; rotate_left 1; rfl; (focus (intro wS hSw; obtain ⟨⟨e0, e1, e2, e3, e4, e5, e6, e7, e8, e9, e10⟩, ⟨p0, p1, p2, p3, p4, p5, p6, p7, p8, p9, p10⟩, ⟨o0, o1, o2, o3, o4, o5, o6, o7, o8, o9, o10⟩⟩ := hSw; go_simp; first | done | with_reducible rfl)); (try simp only [Act.put, List.setIfInBounds_toArray, List.set_cons_zero, List.set_cons_succ])) | (refine zAD rfl ?_ ?_; rfl; (try simp only [Act.put, List.setIfInBounds_toArray, List.set_cons_zero, List.set_cons_succ])))
                  refine zAF rfl (fun K hK => ?_)
                  go_simp
                  refine hK.out _ _ (HS.out _ hb8) (fun _ => ?_)
                  (try simp only [Act.put, List.setIfInBounds_toArray, List.set_cons_zero, List.set_cons_succ])
                  clear hK K
                  repeat (first | (refine zAC (v := ?_) rfl ?_ ?_ ?_; rotate_left 1; rfl; (focus (intro wS hSw; obtain ⟨⟨e0, e1, e2, e3, e4, e5, e6, e7, e8, e9, e10⟩, ⟨p0, p1, p2, p3, p4, p5, p6, p7, p8, p9, p10⟩, ⟨o0, o1, o2, o3, o4, o5, o6, o7, o8, o9, o10⟩⟩ := hSw; go_simp; first | done | with_reducible rfl)); (try simp only [Act.put, List.setIfInBounds_toArray, List.set_cons_zero, List.set_cons_succ])) | (refine zAD rfl ?_ ?_; rfl; (try simp only [Act.put, List.setIfInBounds_toArray, List.set_cons_zero, List.set_cons_succ])))
                  refine zAI ?_
                  have HBQ := zIa (zAB HBd.out hb8)
                  clear hb8
                  go_wp2_with fail
                  go_roundw
                  case rel => exact ⟨k + 1, by omega, by go_num, HBQ⟩
                  case measure => first | omega | (simp [RowKit.intOf]; done) | (simp [RowKit.intOf]; omega)
              · have hlt := (List.getElem?_eq_some_iff.1 hdk).1
                rw [HN.out] at hlt
                have hdk2 : AtDd w6.drew tb (kq * 11) dk := (HDd.out.one0 hdk).2.2
                have HDK := zIa hdk2
                have HKQ := zIa hdk
                subst hkq
                have hlt' : (kq : Int) < (j : Int) := by omega
                have hlt2 : ¬ (kq : Int) < 0 := by omega
                have hlt3 : (0 : Int) ≤ (kq : Int) := by omega
                clear hdk hdk2
                have hS : ∀ wx, Below w6.drew.heap.size w6.drew wx → AtBd wx gb dg ∧ AtBd wx pb d ∧ AtDd wx tb (io * 11) od ∧ AtDd wx tb (kq * 11) dk := fun wx hb => ⟨HGd.out.later hb, HPd.out.later hb, HIO.out.later hb, HDK.out.later hb⟩
                have HS := zIa hS
                clear hS
                refine zAE ((fun wx => AtBd wx gb dg ∧ AtBd wx pb d ∧ AtDd wx tb (io * 11) od ∧ AtDd wx tb (kq * 11) dk)) ((0, true) :: (1, true) :: (2, true) :: (3, true) :: (4, false) :: (5, true) :: (6, true) :: (7, true) :: (8, true) :: (9, true) :: (10, true) :: (11, true) :: (12, true) :: (13, true) :: (14, true) :: (15, true) :: (16, false) :: (17, true) :: (18, true) :: (19, true) :: (20, true) :: (21, true) :: (22, true) :: (23, true) :: (24, true) :: (25, true) :: (26, true) :: (27, true) :: (28, false) :: (29, true) :: []) (by kernel_rfl) (by kernel_rfl) (by kernel_rfl) (by decide) (fun _ _ _ _ _ h => h) ((HS.out _ (Below.refl _ _))) ?_
                repeat (first | (refine zAC (v := ?_) rfl ?_ ?_ ?_; rotate_left 1; rfl; (focus (intro wS hSw; obtain ⟨⟨e0, e1, e2, e3, e4, e5, e6, e7, e8, e9, e10⟩, ⟨p0, p1, p2, p3, p4, p5, p6, p7, p8, p9, p10⟩, ⟨o0, o1, o2, o3, o4, o5, o6, o7, o8, o9, o10⟩, ⟨q0, q1, q2, q3, q4, q5, q6, q7, q8, q9, q10⟩⟩ := hSw; go_simp; first | done | with_reducible rfl)); (try simp only [Act.put, List.setIfInBounds_toArray, List.set_cons_zero, List.set_cons_succ])) | (refine zAD rfl ?_ ?_; rfl; (try simp only [Act.put, List.setIfInBounds_toArray, List.set_cons_zero, List.set_cons_succ])))
                refine zAF rfl (fun K hK => ?_)
                go_simp
                refine hK.out _ _ (HS.out _ (Below.refl _ _)) (fun _ => ?_)
                (try simp only [Act.put, List.setIfInBounds_toArray, List.set_cons_zero, List.set_cons_succ])
                clear hK K
                repeat (first | (refine zAC (v := ?_) rfl ?_ ?_ ?_; rotate_left 1; rfl; (focus (intro wS hSw; obtain ⟨⟨e0, e1, e2, e3, e4, e5, e6, e7, e8, e9, e10⟩, ⟨p0, p1, p2, p3, p4, p5, p6, p7, p8, p9, p10⟩, ⟨o0, o1, o2, o3, o4, o5, o6, o7, o8, o9, o10⟩, ⟨q0, q1, q2, q3, q4, q5, q6, q7, q8, q9, q10⟩⟩ := hSw; go_simp; first | done | with_reducible rfl)); (try simp only [Act.put, List.setIfInBounds_toArray, List.set_cons_zero, List.set_cons_succ])) | (refine zAD rfl ?_ ?_; rfl; (try simp only [Act.put, List.setIfInBounds_toArray, List.set_cons_zero, List.set_cons_succ])))
                refine zAF rfl (fun K hK => ?_)
                go_simp
                go_at_call 31
                refine (zAs _ dg dk).mono ?_
                rintro r w8 ⟨rfl, hb8⟩
                (try go_wp2_with fail)
                refine hK.out _ _ (HS.out _ hb8) (fun _ => ?_)
                (try simp only [Act.put, List.setIfInBounds_toArray, List.set_cons_zero, List.set_cons_succ])
                clear hK K
                by_cases hbd : dBef dg dk
                · rw [decide_eq_true hbd]
                  have HBD := zIa hbd
                  clear hbd
                  repeat (first | (refine zAC (v := ?_) rfl ?_ ?_ ?_; rotate_left 1; rfl; (focus (intro wS hSw; obtain ⟨⟨e0, e1, e2, e3, e4, e5, e6, e7, e8, e9, e10⟩, ⟨p0, p1, p2, p3, p4, p5, p6, p7, p8, p9, p10⟩, ⟨o0, o1, o2, o3, o4, o5, o6, o7, o8, o9, o10⟩, ⟨q0, q1, q2, q3, q4, q5, q6, q7, q8, q9, q10⟩⟩ := hSw; go_simp; first | done | with_reducible rfl)); (try simp only [Act.put, List.setIfInBounds_toArray, List.set_cons_zero, List.set_cons_succ])) | (refine zAD rfl ?_ ?_; rfl; (try simp only [Act.put, List.setIfInBounds_toArray, List.set_cons_zero, List.set_cons_succ])))
                  refine zAF rfl (fun K hK => ?_)
                  go_simp
                  go_at_call 34
                  refine (zBX dg.e d od _).mono ?_
                  rintro r w10 ⟨y, rfl, hy, hb10⟩
                  have hb10' := zAB hb8 hb10
                  obtain rfl : y = false := by
                    cases y with
                    | false => rfl
                    | true => exact absurd (hy rfl) (HNF.out (.inr ⟨kq, dk, rfl, HKQ.out, HBD.out⟩))
                  (try go_wp2_with fail)
                  refine hK.out _ _ (HS.out _ hb10') (fun _ => ?_)
                  (try simp only [Act.put, List.setIfInBounds_toArray, List.set_cons_zero, List.set_cons_succ])
                  clear hK K
                  clear hy hb10
                  repeat (first | (refine zAC (v := ?_) rfl ?_ ?_ ?_; rotate_left 1; rfl; (focus (intro wS hSw; obtain ⟨⟨e0, e1, e2, e3, e4, e5, e6, e7, e8, e9, e10⟩, ⟨p0, p1, p2, p3, p4, p5, p6, p7, p8, p9, p10⟩, ⟨o0, o1, o2, o3, o4, o5, o6, o7, o8, o9, o10⟩, ⟨q0, q1, q2, q3, q4, q5, q6, q7, q8, q9, q10⟩⟩ := hSw; go_simp; first | done | with_reducible rfl)); (try simp only [Act.put, List.setIfInBounds_toArray, List.set_cons_zero, List.set_cons_succ])) | (refine zAD rfl ?_ ?_; rfl; (try simp only [Act.put, List.setIfInBounds_toArray, List.set_cons_zero, List.set_cons_succ])))
                  refine zAI ?_
                  have HBQ := zIa (zAB HBd.out hb10')
                  clear hb10'
                  go_wp2_with fail
                  go_roundw
                  case rel => exact ⟨k + 1, by omega, by go_num, HBQ⟩
                  case measure => first | omega | (simp [RowKit.intOf]; done) | (simp [RowKit.intOf]; omega)
                · rw [decide_eq_false hbd]
                  clear hbd
                  repeat (first | (refine zAC (v := ?_) rfl ?_ ?_ ?_; rotate_left 1; rfl; (focus (intro wS hSw; obtain ⟨⟨e0, e1, e2, e3, e4, e5, e6, e7, e8, e9, e10⟩, ⟨p0, p1, p2, p3, p4, p5, p6, p7, p8, p9, p10⟩, ⟨o0, o1, o2, o3, o4, o5, o6, o7, o8, o9, o10⟩, ⟨q0, q1, q2, q3, q4, q5, q6, q7, q8, q9, q10⟩⟩ := hSw; go_simp; first | done | with_reducible rfl)); (try simp only [Act.put, List.setIfInBounds_toArray, List.set_cons_zero, List.set_cons_succ])) | (refine zAD rfl ?_ ?_; rfl; (try simp only [Act.put, List.setIfInBounds_toArray, List.set_cons_zero, List.set_cons_succ])))
                  refine zAF rfl (fun K hK => ?_)
                  go_simp
                  refine hK.out _ _ (HS.out _ hb8) (fun _ => ?_)
                  (try simp only [Act.put, List.setIfInBounds_toArray, List.set_cons_zero, List.set_cons_succ])
                  clear hK K
                  repeat (first | (refine zAC (v := ?_) rfl ?_ ?_ ?_; rotate_left 1; rfl; (focus (intro wS hSw; obtain ⟨⟨e0, e1, e2, e3, e4, e5, e6, e7, e8, e9, e10⟩, ⟨p0, p1, p2, p3, p4, p5, p6, p7, p8, p9, p10⟩, ⟨o0, o1, o2, o3, o4, o5, o6, o7, o8, o9, o10⟩, ⟨q0, q1, q2, q3, q4, q5, q6, q7, q8, q9, q10⟩⟩ := hSw; go_simp; first | done | with_reducible rfl)); (try simp only [Act.put, List.setIfInBounds_toArray, List.set_cons_zero, List.set_cons_succ])) | (refine zAD rfl ?_ ?_; rfl; (try simp only [Act.put, List.setIfInBounds_toArray, List.set_cons_zero, List.set_cons_succ])))
                  refine zAI ?_
                  have HBQ := zIa (zAB HBd.out hb8)
                  clear hb8
                  go_wp2_with fail
                  go_roundw
                  case rel => exact ⟨k + 1, by omega, by go_num, HBQ⟩
                  case measure => first | omega | (simp [RowKit.intOf]; done) | (simp [RowKit.intOf]; omega)
            · obtain rfl : k = j := by omega
              have hkk : ¬ (k : Int) < (k : Int) := by omega
              have HBz := zIa (zAB HBg.out HBk.out)
              go_wp2_with fail
              go_roundw
              case rel => exact ⟨i + 1, by omega, by go_num, HBz⟩
              case measure => first | omega | (simp [RowKit.intOf]; done) | (simp [RowKit.intOf]; omega)
    · obtain rfl : i = n := by omega
      have hnn : ¬ (i : Int) < (i : Int) := by omega
      have HZ := zIa (zAB HB3.out HB.out)
      go_wp2_with fail
      go_ret
      exact ⟨rfl, HZ.out⟩
end Go.Proofs.YtpfjommkjkbonaaGreat
