/-
  WholeClean answers true for all numbers and lists of moves, and leaves all memory that was there as it was. No condition.
-/
import Derived.Test.YtebgjfhaolgcjaaGreatQLE11
import Derived.Test.YtebgjfhaolgcjaaGreatQLE13
namespace Go.Proofs.YtebgjfhaolgcjaaGreat
open Go.RowKit
set_option linter.unusedVariables false

theorem evs_fit {B : YB} {N m : Nat} {Y : Nat → Yd} (h : YTr B N Y m) (hl : 2 * (N : Int) + 2 * B.t ≤ 10000) : ∀ i,i ≤ m → ∀ e ∈ (Y i).L,e.Fit
  | 0,_=>by rw [h.zero]; intro e he; cases he
  | i + 1,hi=>zEv (evs_fit h hl i (by omega)) (h.all i (by omega)).ok (h.mv i hi) (by have:=(h.all i (by omega)).len; omega) (h.fit i (by omega)) (h.fit (i + 1) hi)
theorem cnt_take3 {p : Dd → Bool} {l : List Dd} {j : Nat} {d : Dd} (h : l[j]? = some d) : cntL p (l.take (j + 1)) = cntL p (l.take j) + if p d = true then 1 else 0:=by
  rw [List.take_add_one,h]
  exact zBJ
theorem no_pend {l : List Dd} (h : ∀ d ∈ l,0 ≤ d.till) : cntL isPend l = 0:=by
  unfold cntL
  refine List.countP_eq_zero.2 (fun d hd=>?_)
  have:=h d hd
  unfold isPend
  rw [decide_eq_false (by omega)]
  simp
set_option maxRecDepth 100000 in
set_option maxHeartbeats 8000000 in
theorem walk_WholeClean (a0 : Int) (a1 : Int) (a2 : Int) (a3 : Option Addr) (len3 cap3 : Nat) (w : World) (w0 : (Lit.int .i64 a0).wf = true) (w1 : (Lit.int .i64 a1).wf = true) (w2 : (Lit.int .i64 a2).wf = true) (w3 : IsRows w [.inl .i64,.inl .i64,.inl .i64,.inl .i64,.inr true,.inr true,.inl .u64,.inl .i64] a3 len3 cap3) :
    Calls Tryz.prog 5 #[.int .i64 a0,.int .i64 a1,.int .i64 a2,.slice a3 len3 cap3] w fun e w'=>e = .returned (.bool true) ∧ Below w.heap.size w w':=by
  clear w0 w1 w2
  obtain ⟨V,rfl,hV⟩:=zEm w3
  have HV:=zI2 hV
  clear w3 hV
  rcases Nat.lt_or_ge 300 V.length with hbig | hs4
  · have hbig' : (300 : Int) < (V.length : Int):=by omega
    go_enter Tryz.func5,Tryz.ntmps5
    go_wp2_with fail
    refine (zBq _).mono ?_
    rintro e w1 ⟨rfl,hb1⟩
    go_wp2_with fail
    go_ret
    exact ⟨rfl,hb1⟩
  have hs5 : ¬ (300 : Int) < (V.length : Int):=by omega
  go_enter Tryz.func5,Tryz.ntmps5
  go_wp2_with fail
  refine (zBq _).mono ?_
  rintro e w1 ⟨rfl,hb1⟩
  have HB1:=zI2 hb1
  have HV1:=zI2 (HV.out.later hb1)
  clear hb1 HV
  go_wp2_with fail
  refine (zGv a0 a1 a2 2 1000 a3 cap3 V _ HV1.out (by omega) (.inr (.inr rfl))).mono ?_
  rintro r w2 ⟨W,l,yb,ytb,p,c,T,s,so,N,S,Yf,An,J,g,hR,hTe⟩
  obtain rfl:=hR.ret
  have HY:=zI2 hR.run.yd
  have HB2:=zI2 (zAA HB1.out hR.below)
  have hT4:=hR.T4
  have hT1:=hR.T1
  have hn16:=hR.n16
  have hs1:=hR.s1
  have hss4:=hR.s4
  have HEQ:=zI2 hR.eq
  have hSl : S.length ≤ 300:=by have h:=hR.ok.len; have:=hR.few; rw [hR.is] at h; omega
  have HTR:=zI2 hR.run.tr.tr
  have HPT:=zI2 hR.run.tr
  have HAK:=zI2 (hR.ok.asks hR.is hR.run.tr)
  have HTM : Hid (∀ m ∈ S,m.k = 2 → m.n ≤ 32768):=zI2 (fun m hm=>zDu (T:=1 + a0 % 4) (mode:=2) (most:=1000) V m (by rw [← hTe,hR.is]; exact hm))
  clear hR HB1 HV1 hTe
  have HLY : Hid (Lay T s N):=zI2 HY.out.cf.lay
  have HFA : Hid (FirstIs T s so N (Yf S.length).L (-1)):=zI2 (.inl ⟨rfl,(HTR.out.all _ (Nat.le_refl _)).aok.all⟩)
  have HFI:=zI2 (evs_fit HTR.out (by show 2 * (N : Int) + 2 * (T : Int) ≤ 10000; omega) S.length (Nat.le_refl _))
  have hnl : (Yf S.length).L.length ≤ 1000:=by have:=HY.out.ok.nL; have:=HY.out.ok.most; omega
  obtain ⟨v6,vd6,X6,hA6⟩:=HY.out.h
  have HA6:=zI2 hA6
  clear hA6
  go_wp2_with fail
  refine (zA2 HA6.out).mono ?_
  rintro r w3 ⟨rfl,hb⟩
  have HY3:=zI2 (HY.out.later hb)
  clear hb HY HA6
  go_wp2_with fail
  refine (HY3.out.log (by omega)).mono ?_
  rintro r w4 ⟨v4,rfl,hrow,hb⟩
  obtain ⟨A4,cp4,rfl⟩:=zAM hrow
  obtain ⟨g4,hev⟩:=zDd hrow rfl HFI.out
  have HY4:=zI2 (HY3.out.later hb)
  have HE4:=zI2 hev
  clear hrow hb hev HY3 HFI
  go_wp2_with fail
  refine (zBW _ _ _ _ _ _ _ (-1) HLY.out HE4.out (by omega) HFA.out).mono ?_
  rintro r w5 ⟨rfl,hb⟩
  have HY:=zI2 (HY4.out.later hb)
  clear hb HE4 HY4 HFA hnl
  go_wp2_with fail
  refine (zCH (n:=S.length) HY.out HTR.out (by omega) (by show T ≤ 4; omega) (by omega) (by show s ≤ 4; omega) (by show (1 : Int) ≤ 3; decide)).mono ?_
  rintro r w6 ⟨sn,jn,l4,Y4,J4,Yg,rfl,hF⟩
  have hfew:=hF.few
  have HYF:=zI2 hF.yd
  have HTF:=zI2 hF.tr
  have HAT:=zI2 hF.at'
  have HID:=zI2 hF.idle
  have HAF : Hid (AsksOk (Y4.ds.map Dd.ask)):=zI2 (by rw [zEd hF.tick]; exact HAK.out)
  have hdl : Y4.ds.length ≤ 300:=by rw [zEG hF.tick]; have:=HY.out.ok.nds; have:=HY.out.ok.most; omega
  clear hF HY HTR HPT HAK
  have hall:=HTF.out.all _ (Nat.le_refl _)
  rw [HAT.out] at hall
  have HFA : Hid (FirstIs T s so N Y4.L (-1)):=zI2 (.inl ⟨rfl,hall.aok.all⟩)
  have HFI:=zI2 (evs_fit HTF.out (by show 2 * (N : Int) + 2 * (T : Int) ≤ 10000; omega) _ (Nat.le_refl _))
  rw [HAT.out] at HFI
  have hnl : Y4.L.length ≤ 10000:=by have:=HYF.out.ok.nL; have:=HYF.out.ok.most; omega
  have HCT : Hid (stN 0 Y4.C N + stN 1 Y4.C N + stN 2 Y4.C N = N ∧ cntL isPut Y4.ds = stN 1 Y4.C N + cntL isHad Y4.ds):=zI2 (by
    obtain ⟨o1,o2,o3⟩:=hall.cok.out
    have o4:=no_pend (fun d hd=>by
      obtain ⟨i,hi⟩:=List.mem_iff_getElem?.1 hd
      exact zD7 hall.ok (fun k hk=>HID.out k hk) hi)
    omega)
  have HKD:=zI2 (fun i d (hd : Y4.ds[i]? = some d)=>(hall.num.kind i d hd).1)
  have HCF:=zI2 HYF.out.h.fit
  clear hall HTF HAT HID HAF HTM HEQ
  have hN1 : 0 < N:=by have:=HLY.out.n1; have:=HLY.out.t1; omega
  go_wp2_with fail
  refine (HYF.out.words).mono ?_
  rintro r w7 ⟨u7,Xs,rfl,hr,hl7,hx7,hb7⟩
  obtain ⟨g7,cap7,rfl⟩:=zHC hr hN1
  have HW7 : Hid (∀ i,i < N → w7.cell? ⟨g7,i,none⟩ = some (.int .u64 (Y4.C.getD i 0))):=zI2 (fun i hi=>by have h:=hx7 i hi; rw [Nat.zero_add] at h; rw [← h]; exact zEu hr hi)
  have hcap7:=zCV hr
  have HY7:=zI2 (HYF.out.later hb7)
  clear hr hl7 hx7 hb7 HYF
  go_wp2_with fail
  refine (zCR w7 g7 N cap7 Y4.C HW7.out HCF.out (by omega) hcap7).mono ?_
  rintro r w8 ⟨rfl,hb⟩
  obtain ⟨f,hf⟩ : ∃ f,stN 0 Y4.C N = f:=⟨_,rfl⟩
  obtain ⟨lv,hlv⟩ : ∃ f,stN 1 Y4.C N = f:=⟨_,rfl⟩
  obtain ⟨gn,hgn⟩ : ∃ f,stN 2 Y4.C N = f:=⟨_,rfl⟩
  rw [hf,hlv,hgn] at HCT ⊢
  have HY8:=zI2 (HY7.out.later hb)
  clear hf hlv hgn hb HY7 HW7 HCF
  go_wp2_with fail
  refine (HY8.out.deedsT (by omega) (by show T ≤ 1000; omega)).mono ?_
  rintro r w9 ⟨A9,cp9,tb,rfl,hb3,hD⟩
  have HB9:=zI2 (zAA HB2.out (HY8.out.later hb3).h.below)
  have HD:=zI2 hD
  have hcap:=hD.2.1
  have HY9:=zI2 (HY8.out.later hb3)
  clear hb3 HY8 HB9
  obtain ⟨ds,hds⟩ : ∃ ds,Y4.ds = ds:=⟨_,rfl⟩
  rw [hds] at HD HKD HCT hdl hcap ⊢
  clear hds
  obtain ⟨n,hn⟩ : ∃ n,ds.length = n:=⟨_,rfl⟩
  rw [hn] at hdl hcap HD ⊢
  have HN:=zI2 hn
  clear hn
  go_wp2_with fail
  go_loopw [13,46] (fun pv iv wr => ∃ (i : Nat) (u : Int),i ≤ n ∧ -(i : Int) ≤ u ∧ u ≤ i ∧ pv = .int .i64 u ∧ iv = .int .i64 i ∧ Hid (u = (cntL isPut (ds.take i) : Int) - (cntL isHad (ds.take i) : Int)) ∧ Hid (Below w9.heap.size w9 wr)) (fun _ iv _=>n - (RowKit.intOf iv).toNat)
  case atStart=>exact ⟨0,0,Nat.zero_le _,by omega,by omega,rfl,rfl,zI2 rfl,zI2 (Below.refl _ _)⟩
  case round =>
    obtain ⟨i,u,hi,hu0,hu1,rfl,rfl,HU,HB⟩:=hrel
    rcases Nat.lt_or_ge i n with hil | hil
    · have hil' : (i : Int) < (n : Int):=by omega
      obtain ⟨a,ha⟩ : ∃ d,ds[i]? = some d:=⟨_,List.getElem?_eq_getElem (by rw [HN.out]; exact hil)⟩
      obtain ⟨rfl,htb,hat⟩:=(HD.out.less HB.out).one0 ha
      obtain ⟨d0,d1,d2,d3,d4,d5,d6,d7,d8,d9,d10⟩:=hat
      have s0:=cnt_take3 (p:=isPut) ha
      have s1:=cnt_take3 (p:=isHad) ha
      have hkd:=HKD.out i a ha
      have HBN:=zI2 (fun o=>zAB HB.out o)
      have hou:=HU.out
      clear ha
      rw [show isPut a = (a.ok && decide (a.kd = 0)) from rfl] at s0
      rw [show isHad a = (a.ok && decide (a.kd = 1)) from rfl] at s1
      cases hok : a.ok with
      | false =>
        rw [hok] at d7 s0 s1
        have HUN : Hid (u = (cntL isPut (ds.take (i + 1)) : Int) - (cntL isHad (ds.take (i + 1)) : Int)):=zI2 (by simp at s0 s1; omega)
        clear s0 s1 hok hou hkd
        go_wp2_with fail
        go_roundw
        case rel=>exact ⟨i + 1,u,by omega,by omega,by omega,rfl,by go_num,HUN,zI2 (HBN.out _)⟩
        case measure=>first | omega | (simp [RowKit.intOf]; done) | (simp [RowKit.intOf]; omega)
      | true =>
        rw [hok] at d7 s0 s1
        rcases hkd with hk | hk
        · have k0 : (a.kd == 0) = true:=by rw [hk]; rfl
          have k1 : (a.kd == 1) = false:=by rw [hk]; rfl
          rw [hk] at s0 s1
          have HUN : Hid (u + 1 = (cntL isPut (ds.take (i + 1)) : Int) - (cntL isHad (ds.take (i + 1)) : Int)):=zI2 (by simp at s0 s1; omega)
          clear s0 s1 hok hou hk
          go_wp2_with fail
          go_roundw
          case rel=>exact ⟨i + 1,u + 1,by omega,by omega,by omega,by go_num,by go_num,HUN,zI2 (HBN.out _)⟩
          case measure=>first | omega | (simp [RowKit.intOf]; done) | (simp [RowKit.intOf]; omega)
        · have k0 : (a.kd == 0) = false:=by rw [hk]; rfl
          have k1 : (a.kd == 1) = true:=by rw [hk]; rfl
          rw [hk] at s0 s1
          have HUN : Hid (u - 1 = (cntL isPut (ds.take (i + 1)) : Int) - (cntL isHad (ds.take (i + 1)) : Int)):=zI2 (by simp at s0 s1; omega)
          clear s0 s1 hok hou hk
          go_wp2_with fail
          go_roundw
          case rel=>exact ⟨i + 1,u - 1,by omega,by omega,by omega,by go_num,by go_num,HUN,zI2 (HBN.out _)⟩
          case measure=>first | omega | (simp [RowKit.intOf]; done) | (simp [RowKit.intOf]; omega)
    · obtain rfl : i = n:=by omega
      have hnn : ¬ (i : Int) < (i : Int):=by omega
      have hou:=HU.out
      rw [List.take_of_length_le (by rw [HN.out]; exact Nat.le_refl _)] at hou
      obtain ⟨c1,c2⟩:=HCT.out
      have hul : u = lv:=by omega
      have hsum : (f : Int) + lv + gn = N:=by omega
      have hfb : f ≤ 5000 ∧ lv ≤ 5000 ∧ gn ≤ 5000:=by omega
      subst hul
      have HSUM:=zI2 hsum
      have HYa:=zI2 (HY9.out.later HB.out)
      clear hou c1 c2 hsum HY9 HD HCT HKD HU
      obtain ⟨va,vda,Xa,hAa⟩:=HYa.out.h
      have HAa:=zI2 hAa
      clear hAa
      go_wp2_with fail
      refine (zA2 HAa.out).mono ?_
      rintro r wb ⟨rfl,hb⟩
      have HYb:=zI2 (HYa.out.later hb)
      clear hb HYa HAa
      go_wp2_with fail
      refine (HYb.out.log (by omega)).mono ?_
      rintro r wc ⟨v4,rfl,hrow,hb⟩
      obtain ⟨A4,cp4,rfl⟩:=zAM hrow
      obtain ⟨g4,hev⟩:=zDd hrow rfl HFI.out
      have HYc:=zI2 (HYb.out.later hb)
      have HE4:=zI2 hev
      clear hrow hb hev HYb HFI
      go_wp2_with fail
      refine (zBW _ _ _ _ _ _ _ (-1) HLY.out HE4.out (by omega) HFA.out).mono ?_
      rintro r wd ⟨rfl,hb⟩
      have HYd:=zI2 (HYc.out.later hb)
      clear hb HE4 HYc HFA hnl
      obtain ⟨va,vda,Xa,hAa⟩:=HYd.out.h
      have HAa:=zI2 hAa
      clear hAa
      go_wp2_with fail
      refine (zA2 HAa.out).mono ?_
      rintro r we ⟨rfl,hb⟩
      have HYe:=zI2 (HYd.out.later hb)
      clear hb HYd HAa
      have z1 : ((f : Int) + (lv : Int) + (gn : Int) == (N : Int)) = true:=beq_iff_eq.2 HSUM.out
      go_wp2_with fail
      refine (zAv _ _ _ _ N _ HLY.out).mono ?_
      rintro r wf ⟨rfl,hb⟩
      have HYf:=zI2 (HYe.out.later hb)
      clear hb HYe
      go_wp2_with fail
      go_ret
      exact ⟨rfl,zAA HB2.out HYf.out.h.below⟩
end Go.Proofs.YtebgjfhaolgcjaaGreat
