/-
  WholeDrain answers true for all numbers and lists of moves, at either end, and leaves all memory that was there as it was. No condition.
-/
import Derived.Test.YtebgjfhaolgcjaaGreatQLH11
namespace Go.Proofs.YtebgjfhaolgcjaaGreat
open Go.RowKit
set_option linter.unusedVariables false

/-- A yard,and beside it an order,values and a call. -/
structure DrAt (W w : World) (l : List Thing) (B : YB) (N : Nat) (Y : Yd) (J : Nat → Nat) (n jo jv jc : Nat) (ov : Value) (O : List Nat) (vb vcap : Nat) (Vs : List Int) (cb : Nat) (e : Int) : Prop where
  yd : YdL W w l B N Y J n
  ro : Rest Y l J jo (tInts W.heap.size ov O)
  rv : Rest Y l J jv (tRow W.heap.size 30 1 (.slice (some ⟨vb,0,none⟩) N vcap) N (Vs.map u64))
  rc : Rest Y l J jc (tObj W.heap.size cb [i64 1,i64 e,u64 0,i64 0])
section
variable {W w w' : World} {l l' : List Thing} {B : YB} {N : Nat} {Y Y' : Yd} {J J' : Nat → Nat} {n n' jo jv jc : Nat} {ov : Value} {O : List Nat} {vb vcap : Nat} {Vs : List Int} {cb : Nat} {e : Int}
theorem DrAt.later (h : DrAt W w l B N Y J n jo jv jc ov O vb vcap Vs cb e) (k : Below w.heap.size w w') : DrAt W w' l B N Y J n jo jv jc ov O vb vcap Vs cb e:=⟨h.yd.later k,h.ro,h.rv,h.rc⟩
theorem DrAt.go (h : DrAt W w l B N Y J n jo jv jc ov O vb vcap Vs cb e) (hd : YdL W w' l' B N Y' J' n') (hg : YGo Y Y' l l' J J') : DrAt W w' l' B N Y' J' n' jo jv jc ov O vb vcap Vs cb e:=⟨hd,h.ro.go hg,h.rv.go hg,h.rc.go hg⟩
theorem Rest.put {A : Thing} {j : Nat} (h : Rest Y l J n A) (hj : j ≠ n) (A' : Thing) : Rest Y (l.set j A') J n A:=⟨by rw [List.getElem?_set_ne hj]; exact h.at',h.free⟩
theorem Rest.up {A C : Thing} {j : Nat} (h : Rest Y l J j A) : Rest Y (l ++ [C]) J j A:=⟨by rw [List.getElem?_append_left (List.getElem?_eq_some_iff.1 h.at').1]; exact h.at',h.free⟩
end
/-- What is known of a yard that is drained,n gets behind. -/
structure DrOk (B : YB) (N m : Nat) (Yg : Nat → Yd) (Y Y4 : Yd) (O : List Nat) (e : Int) (n : Nat) : Prop where
  tr : YTr B N Yg m
  at' : Yg m = Y
  idle : ∀ k,k < B.T → Y.ts[k]? = some none
  ord : IsOrder (Y.C.take N) (leftS e O n)
  val : ∀ i,i < N → Y.C.getD (N + i) 0 = Y4.C.getD (N + i) 0
  ask : AskV Y.ds
  few : Y.ds.length ≤ 300 + n
theorem DrOk.next {B : YB} {N m s j : Nat} {Yg Yh Yk : Nat → Yd} {Y Y4 Y' : Yd} {O : List Nat} {e : Int} {n : Nat} (h : DrOk B N m Yg Y Y4 O e n) (hN : N < 1000000) (hT : 0 < B.T) (he : e = 0 ∨ e = 1) (hY : Yh (m + 1) = Y.call 0 1 e 0 0 (wkB B N 0 true e 0 0)) (ht : YTr B N Yk (m + 1 + s)) (ha : Yk (m + 1 + s) = Y') (hk : Tick B N (Yh (m + 1)) j Y' s) (hi : ∀ k,k < B.T → Y'.ts[k]? = some none) :
    ∃ d,Y'.ds = Y.ds ++ [d] ∧ d.kd = 1 ∧ d.fr = (Y.moves : Int) ∧ (n < O.length → d.ok = true ∧ leftAt e O n < N ∧ d.v = Y4.C.getD (N + leftAt e O n) 0 ∧ DrOk B N (m + 1 + s) Yk Y' Y4 O e (n + 1)) ∧ (n = O.length → d.ok = false ∧ ∀ v,tally Y'.ds v = 0) ∧ ∀ x ∈ Y'.ds,x.FitV:=by
  have hA:=h.tr.all m (Nat.le_refl _)
  have hf:=h.tr.fit m (Nat.le_refl _)
  rw [h.at'] at hA hf
  have hl : LoneG B N Y 0 e 0 Y':=by
    rw [hY] at hk
    exact LoneG.tick hf hN hT (LoneG.start (w:=0) h.tr.cf h.tr.hT hA.len h.idle hT he) hk
  obtain ⟨d,ho⟩:=hl.out (hi 0 hT)
  have hask : AskV Y'.ds:=by
    rw [ho.ds]
    have e1:=zB7 hk
    rw [hY,ho.ds] at e1
    have h2:=h.ask.get (d:=⟨(0 : Nat),1,e,0,0,Y.moves, -1,false,0,0,0⟩) rfl he rfl
    exact h2.same e1
  have hfv:=AskV.fitV ht (by rw [ha]; exact hask)
  rw [ha] at hfv
  refine ⟨d,ho.ds,ho.kd,ho.fr,fun hn=>?_,fun hn=>?_,hfv⟩
  · obtain ⟨q1,q2,q3,q4⟩:=ho.yes hf h.ord hn
    exact ⟨q1,q2,by rw [q3,h.val _ q2],⟨ht,ha,hi,q4,fun i hi=>(ho.val i hi).trans (h.val i hi),hask,by have:=h.few; rw [ho.ds,List.length_append,List.length_singleton]; omega⟩⟩
  · have hno:=ho.no h.ord hn
    refine ⟨hno,fun v=>?_⟩
    have hA':=(ht.all _ (Nat.le_refl _)).ok
    have hr:=zDD ht (by rw [ha]; exact hask.ok.down) (fun x hx=>by rw [ha] at hx; exact (hask.ok.dkind hx).1) (fun g x hx=>by
      rw [ha] at hx hA'
      exact zCb hA' hi hx) (g:=Y.ds.length) (dg:=d) (by rw [ha,ho.ds,List.getElem?_append_right (Nat.le_refl _),Nat.sub_self]; rfl) ho.kd hno (fun x hx hk0=>by
      rw [ha,ho.ds] at hx
      rcases List.mem_append.1 hx with hx | hx
      · exact zDK hA.ok h.idle hx ho.fr
      · rw [List.mem_singleton.1 hx,ho.kd] at hk0
        exact absurd hk0 (by decide)) v
    rw [ha] at hr
    exact hr
set_option maxRecDepth 100000 in
set_option maxHeartbeats 8000000 in
theorem walk_WholeDrain (a0 : Int) (a1 : Int) (a2 : Int) (a3 : Option Addr) (len3 cap3 : Nat) (a4 : Bool) (w : World) (w0 : (Lit.int .i64 a0).wf = true) (w1 : (Lit.int .i64 a1).wf = true) (w2 : (Lit.int .i64 a2).wf = true) (w3 : IsRows w [.inl .i64,.inl .i64,.inl .i64,.inl .i64,.inr true,.inr true,.inl .u64,.inl .i64] a3 len3 cap3) :
    Calls Tryz.prog 8 #[.int .i64 a0,.int .i64 a1,.int .i64 a2,.slice a3 len3 cap3,.bool a4] w fun e w'=>e = .returned (.bool true) ∧ Below w.heap.size w w':=by
  clear w0 w1 w2
  obtain ⟨V,rfl,hV⟩:=zEy w3
  have HV:=zIn hV
  clear w3 hV
  rcases Nat.lt_or_ge 300 V.length with hbig | hs4
  · have hbig' : (300 : Int) < (V.length : Int):=by omega
    go_enter Tryz.func8,Tryz.ntmps8
    go_wp2_with fail
    refine (zBg _).mono ?_
    rintro e w1 ⟨rfl,hb1⟩
    go_wp2_with fail
    go_ret
    exact ⟨rfl,hb1⟩
  have hs5 : ¬ (300 : Int) < (V.length : Int):=by omega
  go_enter Tryz.func8,Tryz.ntmps8
  go_wp2_with fail
  refine (zBg _).mono ?_
  rintro e w1 ⟨rfl,hb1⟩
  have HB1:=zIn hb1
  have HV1:=zIn (HV.out.later hb1)
  clear hb1 HV
  go_wp2_with fail
  refine (zG6 a0 a1 a2 2 1000 a3 cap3 V _ HV1.out (by omega) (.inr (.inr rfl))).mono ?_
  rintro r w2 ⟨W,l,yb,ytb,p,c,T,s,so,N,S,Yf,An,J,g,hR,hTe⟩
  obtain rfl:=hR.ret
  have HY:=zIn hR.run.yd
  have HB2:=zIn (zAE HB1.out hR.below)
  have hT4:=hR.T4
  have hT1:=hR.T1
  have hn16:=hR.n16
  have hs1:=hR.s1
  have hss4:=hR.s4
  have HEQ:=zIn hR.eq
  have hSl : S.length ≤ 300:=by have h:=hR.ok.len; have:=hR.few; rw [hR.is] at h; omega
  have HTR:=zIn hR.run.tr.tr
  have HPT:=zIn hR.run.tr
  have HAK:=zIn (hR.ok.asks hR.is hR.run.tr)
  have HTM : Hid (∀ m ∈ S,m.k = 2 → m.n ≤ 32768):=zIn (fun m hm=>zDo (T:=1 + a0 % 4) (mode:=2) (most:=1000) V m (by rw [← hTe,hR.is]; exact hm))
  have HXG:=zIn (fun d hd=>hR.run.tr.have (Nat.le_refl _) (P:=fun a=>0 ≤ a.2.2.2.1 ∧ a.2.2.2.1 ≤ 18446744073709551615) (fun m hm _=>(hR.ok.right m (by rw [hR.is]; exact hm)).2) (d:=d) hd)
  have HAV : Hid (AskV (Yf S.length).ds):=zIn ⟨HAK.out,fun a ha=>by obtain ⟨d,hd,rfl⟩:=List.mem_map.1 ha; exact HXG.out d hd⟩
  clear hR HB1 HV1 hTe
  go_wp2_with fail
  refine (zBP (n:=S.length) HY.out HTR.out (by omega) (by show T ≤ 4; omega) (by omega) (by show s ≤ 4; omega) (by show (1 : Int) ≤ 3; decide)).mono ?_
  rintro r w4 ⟨sn,jn,l4,Y4,J4,Yg,rfl,hF⟩
  have hfew:=hF.few
  have HYF:=zIn hF.yd
  have HTF:=zIn hF.tr
  have HAT:=zIn hF.at'
  have HID:=zIn hF.idle
  have HVF:=zIn (HAV.out.same (zB7 hF.tick))
  have HLY : Hid (Lay T s N):=zIn hF.yd.cf.lay
  have hdf : Y4.ds.length ≤ 300 + 0:=by rw [zEV hF.tick]; have:=HY.out.ok.nds; have:=HY.out.ok.most; omega
  obtain ⟨M0,hM0⟩ : ∃ M0,S.length + sn = M0:=⟨_,rfl⟩
  have hM1 : M0 ≤ 6300:=by omega
  rw [hM0] at HYF HTF HAT
  clear hF HY HTR HPT HAK HAV HXG HTM HEQ hM0 hfew hSl
  have hN1 : 0 < N:=by have:=HLY.out.n1; have:=HLY.out.t1; omega
  have hT0 : 0 < T:=hT1
  go_wp2_with fail
  refine (HYF.out.words).mono ?_
  rintro r w5 ⟨u5,Xs,rfl,hr,hl5,hx5,hb5⟩
  obtain ⟨g5,cap5,rfl⟩:=zDw hr hN1
  have hlen4 : Y4.C.length = 2 * N + 2 * T:=by have h:=HYF.out.len; have h2 : (Y4.C.length : Int) = 2 * N + 2 * (T : Int):=h; omega
  have hXs : Xs = Y4.C.take N:=zDd hl5 (by omega) (fun j hj=>by have h:=hx5 j hj; rw [Nat.zero_add] at h; exact h)
  have hfx:=HYF.out.h.fit
  have HWS : Hid (IsWs w5 (some ⟨g5,0,none⟩) (Y4.C.take N)):=zIn (by
    rw [← hXs]
    refine zCn hr (fun i=>?_)
    rw [hXs]
    rcases Nat.lt_or_ge i N with h | h
    · rw [zCT h]
      exact hfx i
    · rw [List.getD_eq_getElem?_getD,List.getElem?_eq_none (by rw [List.length_take]; omega)]
      exact ⟨by decide,by decide⟩)
  have hwl : (Y4.C.take N).length = N:=by rw [List.length_take]; omega
  have HY5:=zIn (HYF.out.later hb5)
  have hcap5:=zBV hr
  clear hr hl5 hx5 hb5 HYF hXs hfx hlen4
  go_wp2_with fail
  have hor:=zEN w5 (some ⟨g5,0,none⟩) cap5 (Y4.C.take N) HWS.out (by rw [hwl]; omega)
  rw [hwl] at hor
  refine hor.mono ?_
  rintro r w6 ⟨ov,O,rfl,hO,hI,hb6⟩
  have hOl : O.length ≤ 16:=by have:=hO.len; omega
  have HOR:=zIn hO
  have HD6:=zIn ((HY5.out.later (Below.refl _ _)).more (A:=tInts W.heap.size ov O) hb6 (zDa _ _ _) (zDB hI HY5.out.h.size) (fun q hq=>zDt hI hq))
  have HR6:=zIn (HY5.out.rest (tInts W.heap.size ov O))
  clear hor hO hI hb6 HY5 HWS hwl hcap5
  generalize l4 ++ [tInts W.heap.size ov O] = l6 at HD6 HR6
  generalize l4.length = jo at HR6
  go_wp2_with fail
  refine (HD6.out.values).mono ?_
  rintro r w7 ⟨u7,Vs,rfl,hr,hl7,hx7,hb7⟩
  obtain ⟨vb,vcap,rfl⟩:=zDw hr hN1
  have HVV:=zIn hx7
  have hvc:=zBV hr
  have HD7:=zIn (HD6.out.more (A:=tRow W.heap.size 30 1 (.slice (some ⟨vb,0,none⟩) N vcap) N (Vs.map u64)) hb7 (zAx _ _ _ _ _ _) (zBZ hr HD6.out.h.size) (fun q hq=>(hr.lt q hq).1))
  have HR7:=zIn (HD6.out.rest (tRow W.heap.size 30 1 (.slice (some ⟨vb,0,none⟩) N vcap) N (Vs.map u64)))
  have HO7 : Hid (Rest Y4 (l6 ++ [tRow W.heap.size 30 1 (.slice (some ⟨vb,0,none⟩) N vcap) N (Vs.map u64)]) J4 jo (tInts W.heap.size ov O)):=zIn HR6.out.up
  clear hr hl7 hx7 hb7 HD6 HR6
  generalize l6 ++ [tRow W.heap.size 30 1 (.slice (some ⟨vb,0,none⟩) N vcap) N (Vs.map u64)] = l7 at HD7 HR7 HO7
  generalize l6.length = jv at HR7
  have HD8:=zIn (HD7.out.more (A:=tObj W.heap.size w7.heap.size [i64 1,i64 0,u64 0,i64 0]) (zAA (Below.refl _ _) (.cells #[.int .i64 1,.int .i64 0,.int .u64 0,.int .i64 0] 37)) (zAO _ _ _) ⟨IsObj.made w7 [i64 1,i64 0,u64 0,i64 0] 37,HD7.out.h.size⟩ (fun q hq=>by cases hq; exact Nat.le_refl _))
  have HC8:=zIn (HD7.out.rest (tObj W.heap.size w7.heap.size [i64 1,i64 0,u64 0,i64 0]))
  have HV8:=zIn (HR7.out.up (C:=tObj W.heap.size w7.heap.size [i64 1,i64 0,u64 0,i64 0]))
  have HO8:=zIn (HO7.out.up (C:=tObj W.heap.size w7.heap.size [i64 1,i64 0,u64 0,i64 0]))
  have HNE : Hid (l7.length ≠ jo ∧ l7.length ≠ jv):=zIn (by
    have h1:=(List.getElem?_eq_some_iff.1 HO7.out.at').1
    have h2:=(List.getElem?_eq_some_iff.1 HR7.out.at').1
    omega)
  clear HR7 HO7
  go_upto_if 39 with fail
  generalize w7.alloc (.cells #[.int .i64 1,.int .i64 0,.int .u64 0,.int .i64 0] 37) = w8 at HD8 ⊢
  clear HD7
  generalize w7.heap.size = cb at HD8 HC8 HV8 HO8 ⊢
  generalize l7 ++ [tObj W.heap.size cb [i64 1,i64 0,u64 0,i64 0]] = l8 at HD8 HC8 HV8 HO8
  generalize l7.length = jc at HC8 HNE
  go_cut [] (fun wx => ∃ (e : Int) (l : List Thing),Hid (e = if a4 then 1 else 0) ∧ Hid (DrAt W wx l ⟨yb,ytb,p,c,T,s,so,1,T⟩ N Y4 J4 M0 jo jv jc ov O vb vcap Vs cb e))
  case first =>
    cases a4
    · go_wp2_with fail
      go_meet
      exact ⟨0,l8,zIn rfl,zIn ⟨HD8.out,HO8.out,HV8.out,HC8.out⟩⟩
    · have hob:=(HD8.out.has HC8.out : IsObj w8 cb [i64 1,i64 0,u64 0,i64 0] ∧ _).1
      have c1:=hob.at' 1 _ rfl
      have f1:=hob.fz 1
      have hlt:=hob.lt
      clear hob
      go_wp2_with fail
      go_meet
      have hH:=HD8.out.h.hold.cdSet jc HC8.out.at' 1 (i64 1)
      obtain ⟨hd,hr⟩:=HD8.out.turnRow HC8.out hH
      exact ⟨1,_,zIn rfl,zIn ⟨hd,HO8.out.put HNE.out.1 _,HV8.out.put HNE.out.2 _,hr⟩⟩
  case rest =>
    clear HD8 HC8 HV8 HO8
    obtain ⟨e,l9,HE,HDA⟩:=hcut
    have HE01 : Hid (e = 0 ∨ e = 1):=zIn (by rw [HE.out]; cases a4; exact .inl rfl; exact .inr rfl)
    have HOK0 : Hid (DrOk ⟨yb,ytb,p,c,T,s,so,1,T⟩ N M0 Yg Y4 Y4 O e 0):=zIn ⟨HTF.out,HAT.out,HID.out,by rw [zCz]; exact HOR.out,fun _ _=>rfl,HVF.out,hdf⟩
    obtain ⟨oa,ocp,rfl,hocp,hocl⟩:=zBR (HDA.out.yd.has HDA.out.ro)
    clear hocl HTF HAT HID HOR HVF
    go_wp2_with fail
    go_loopw [15] (fun nv wr => ∃ (n m : Nat) (l : List Thing) (Y : Yd) (J : Nat → Nat) (Yk : Nat → Yd),n ≤ O.length ∧ m ≤ 6300 + n * 6000 ∧ nv = .int .i64 n ∧ Hid (DrAt W wr l ⟨yb,ytb,p,c,T,s,so,1,T⟩ N Y J m jo jv jc (.slice oa O.length ocp) O vb vcap Vs cb e) ∧ Hid (DrOk ⟨yb,ytb,p,c,T,s,so,1,T⟩ N m Yk Y Y4 O e n)) (fun nv _=>O.length + 1 - (RowKit.intOf nv).toNat)
    case atStart=>exact ⟨0,M0,l9,Y4,J4,Yg,Nat.zero_le _,by omega,rfl,HDA,HOK0⟩
    case round =>
      clear HDA HOK0
      obtain ⟨n,m,l,Y,J,Yk,hn,hm,rfl,HDA,HOK⟩:=hrel
      have hn' : (n : Int) ≤ (O.length : Int):=by omega
      have hob:=(HDA.out.yd.has HDA.out.rc : IsObj wr cb [i64 1,i64 e,.int .u64 0,i64 0] ∧ _).1
      have c0:=hob.at' 0 _ rfl
      have c1:=hob.at' 1 _ rfl
      have c2:=hob.at' 2 _ rfl
      have c3:=hob.at' 3 _ rfl
      have HID0:=zIn (HOK.out.idle 0 (by show 0 < T; omega))
      clear hob
      go_wp2_with fail
      refine (HDA.out.yd.callIdle (by omega) 0 HID0.out true rfl e 0 0 HE01.out (by decide) (by decide)).mono ?_
      rintro r wa ⟨rfl,l2,J2,hd,hg⟩
      have HDB:=zIn (HDA.out.go hd hg)
      obtain ⟨Yh,hYt,hYl⟩ : ∃ Yh : Nat → Yd,YTr ⟨yb,ytb,p,c,T,s,so,1,T⟩ N Yh (m + 1) ∧ Yh (m + 1) = Y.call (0 : Nat) 1 e 0 0 (wkB ⟨yb,ytb,p,c,T,s,so,1,T⟩ N (0 : Nat) true e 0 0):=⟨_,HOK.out.tr.callN HOK.out.at' (k:=0) true (kd:=1) (e:=e) (x:=0) (s:=0) rfl HE01.out (by decide) (by decide) HID0.out (by omega),YTr.snoc_last _ _ _⟩
      have HYT:=zIn hYt
      have HYL:=zIn hYl
      have HDC : Hid (YdL W wa l2 ⟨yb,ytb,p,c,T,s,so,1,T⟩ N (Yh (m + 1)) J2 (m + 1)):=zIn (by rw [hYl]; exact hd)
      clear hd hg hYt hYl HDA c0 c1 c2 c3
      go_wp2_with fail
      refine (zBP (n:=m + 1) HDC.out HYT.out (by omega) (by show T ≤ 4; omega) (by omega) (by show s ≤ 4; omega) (by show (1 : Int) ≤ 3; decide)).mono ?_
      rintro r wb ⟨sn,jn,l3,Y3,J3,Yj,rfl,hF⟩
      have hfew:=hF.few
      obtain ⟨d,hds,hdk,hdf,hyes,hno,hfv⟩:=HOK.out.next (by omega) (by show 0 < T; omega) HE01.out HYL.out hF.tr hF.at' hF.tick hF.idle
      have HDD : Hid (DrAt W wb l3 ⟨yb,ytb,p,c,T,s,so,1,T⟩ N Y3 J3 (m + 1 + sn) jo jv jc (.slice oa O.length ocp) O vb vcap Vs cb e):=zIn (HDB.out.go hF.yd (by have h:=hF.go; rw [HYL.out] at h; exact h))
      have HYES:=zIn hyes
      have HNO:=zIn hno
      have HFV:=zIn hfv
      have hdl : Y.ds.length ≤ 300 + n:=HOK.out.few
      clear hF hyes hno hfv HDB HDC HYT HYL HOK HID0 hdk hdf
      go_wp2_with fail
      refine (HDD.out.yd.deedsT (by omega) (by show T ≤ 1000; omega)).mono ?_
      rintro r wc ⟨A9,cp9,tb,rfl,hb9,hD9⟩
      have HDE:=zIn (HDD.out.later hb9)
      obtain ⟨q,hq⟩ : ∃ q,Y.ds.length = q:=⟨_,rfl⟩
      have hdq : Y3.ds[q]? = some d:=by rw [hds, ← hq,List.getElem?_append_right (Nat.le_refl _),Nat.sub_self]; rfl
      have hn4 : Y3.ds.length = q + 1:=by rw [hds,List.length_append,hq]; rfl
      have hd3 : Y3.ds.length ≤ 301 + n:=by omega
      obtain ⟨n4,hn4'⟩ : ∃ n4,Y3.ds.length = n4:=⟨_,rfl⟩
      rw [hn4'] at hn4 hD9 ⊢
      rw [hq] at hdl
      obtain ⟨rfl,htb,hat⟩:=hD9.one0 hdq
      have hcap9:=hD9.2.1
      obtain ⟨_,_,_,_,_,_,_,d7,d8,d9,d10⟩:=hat
      have hidx : (n4 : Int) - 1 = (q : Int):=by omega
      have hql : q < n4:=by omega
      have hqi : (q : Int) < (n4 : Int):=by omega
      clear hb9 HDD hds hdq hn4 hq hn4' hD9
      rcases Nat.lt_or_ge n O.length with hnl | hnl
      · obtain ⟨hok,hlN,hdv,HOKn⟩ : d.ok = true ∧ leftAt e O n < N ∧ d.v = Y4.C.getD (N + leftAt e O n) 0 ∧ Hid (DrOk ⟨yb,ytb,p,c,T,s,so,1,T⟩ N (m + 1 + sn) Yj Y3 Y4 O e (n + 1)):=by
          obtain ⟨x1,x2,x3,x4⟩:=HYES.out hnl
          exact ⟨x1,x2,x3,zIn x4⟩
        have hne : ((n : Int) == (O.length : Int)) = false:=beq_false_of_ne (by omega)
        rw [hok] at d7
        have HOKD:=zIn hok
        have HLN:=zIn hlN
        have HVD:=zIn hdv
        clear hok hdv hlN HYES HNO HFV
        obtain ⟨oa2,ocp2,hoe,hoc,hol⟩:=zBR (HDE.out.yd.has HDE.out.ro)
        cases hoe
        obtain ⟨og,rfl,oc⟩:=hol n hnl
        have hogl:=World.block_lt_of_cell? _ _ oc
        obtain ⟨xx,hxx⟩ : ∃ xx,O.getD n 0 = xx:=⟨_,rfl⟩
        have HXX:=zIn hxx
        rw [hxx] at oc
        clear hxx
        have hn2 : (n : Int) < (O.length : Int):=by omega
        have hol0 : ¬ ocp = 0:=by omega
        have HRB : Hid (DrAt W (wc.alloc (.cells #[.bool true,.int .u64 d.v,.int .i64 d.lo,.int .i64 d.hi] 75)) l3 ⟨yb,ytb,p,c,T,s,so,1,T⟩ N Y3 J3 (m + 1 + sn) jo jv jc _ O vb vcap Vs cb e):=zIn (HDE.out.later (zAA (Below.refl _ _) _))
        have hRP:=IsObj.made wc [.bool true,.int .u64 d.v,.int .i64 d.lo,.int .i64 d.hi] 75
        have HRP:=zIn hRP
        clear hRP
        go_upto_if 72 with fail
        clear d7 d8 d9 d10 hidx hql hqi htb hcap9 oc hogl hol
        generalize hwd : wc.alloc (.cells #[.bool true,.int .u64 d.v,.int .i64 d.lo,.int .i64 d.hi] 75) = wd at HRB ⊢
        have HRP2 : Hid (IsObj wd wc.heap.size [.bool true,.int .u64 d.v,.int .i64 d.lo,.int .i64 d.hi]):=zIn (hwd ▸ HRP.out)
        clear hwd HRP HDE
        generalize wc.heap.size = rb at HRP2 ⊢
        obtain ⟨oa2,ocp2,hoe,_,hol⟩:=zBR (HRB.out.yd.has HRB.out.ro)
        cases hoe
        go_cut [18] (fun sv wx=>sv = .int .i64 (leftAt e O n : Nat) ∧ wd = wx)
        case first =>
          cases a4
          · have hlt : e = 0:=HE.out
            have HLT:=zIn hlt
            clear hol hlt
            go_wp2_with fail
            go_meet
            refine ⟨?_,rfl⟩
            unfold leftAt
            rw [if_pos HLT.out,HXX.out]
          · obtain ⟨og',hoe,oc⟩:=hol (O.length - 1 - n) (by omega)
            cases hoe
            have hlt : e = 1:=HE.out
            have HLT:=zIn hlt
            clear hol hlt
            have hn2 : (O.length : Int) - 1 - (n : Int) = ((O.length - 1 - n : Nat) : Int):=by omega
            have HN2:=zIn hn2
            clear hn2
            obtain ⟨oi,hoi⟩ : ∃ oi,O.length - 1 - n = oi:=⟨_,rfl⟩
            rw [hoi] at oc
            have hn3 : (O.length : Int) - 1 - (n : Int) = (oi : Int):=by rw [HN2.out,hoi]
            have hn4 : oi < O.length:=by omega
            have HOI:=zIn hoi
            clear hoi
            obtain ⟨xy,hxy⟩ : ∃ x,O.getD oi 0 = x:=⟨_,rfl⟩
            have HXY:=zIn hxy
            rw [hxy] at oc
            clear hxy
            go_wp2_with fail
            go_meet
            refine ⟨?_,rfl⟩
            unfold leftAt
            rw [if_neg (by rw [HLT.out]; decide),HOI.out,HXY.out]
        case rest =>
          obtain ⟨rfl,rfl⟩:=hcut
          clear hol HXX
          obtain ⟨lt,hlt⟩ : ∃ lt,leftAt e O n = lt:=⟨_,rfl⟩
          rw [hlt] at HLN HVD ⊢
          have hlN:=HLN.out
          have hrow:=HRB.out.yd.has HRB.out.rv
          have cv : wd.cell? ⟨vb,lt,none⟩ = some (.int .u64 d.v):=by
            have h:=zEJ (X:=Vs) hrow hlN
            rw [h,HVD.out,HVV.out lt hlN]
          obtain ⟨r0,r1,r2,r3⟩ : _ ∧ _ ∧ _ ∧ _:=⟨HRP2.out.at' 0 _ rfl,HRP2.out.at' 1 _ rfl,HRP2.out.at' 2 _ rfl,HRP2.out.at' 3 _ rfl⟩
          have hz0 : decide ((lt : Int) < 0) = false:=decide_eq_false (by omega)
          have hz1 : decide (N ≤ lt) = false:=decide_eq_false (by omega)
          have hvcz : ¬ vcap = 0:=by omega
          clear hlt hrow
          go_wp2_with fail
          refine zAQ ((0,true) :: (1,true) :: (2,true) :: (3,true) :: (4,true) :: (5,true) :: (6,true) :: (7,true) :: (8,true) :: (9,true) :: (10,true) :: (11,true) :: (12,true) :: (13,true) :: (14,true) :: (15,true) :: (16,true) :: (17,true) :: (18,true) :: (19,true) :: (20,true) :: (21,true) :: []) (by kernel_rfl) (by kernel_rfl) (by kernel_rfl) (by decide) (fun _ _ _ _ _ h=>h) (fun hHeld=>?_)
          repeat (first
            | (refine zAB (v := ?_) rfl ?_ ?_ ?_; rotate_left 1; rfl; (focus (intro wS hSw; have hk:=zAL hSw; go_simp; first | done | with_reducible rfl)); (try simp only [Act.put,List.setIfInBounds_toArray,List.set_cons_zero,List.set_cons_succ]))
            | (refine zAC rfl ?_ ?_; rfl; (try simp only [Act.put,List.setIfInBounds_toArray,List.set_cons_zero,List.set_cons_succ]))
            | (refine zAG rfl (fun K hK=>?_); go_simp; (try skip); (try go_wp2_with fail); refine hK.out _ _ ?_ ?_; (focus (first | exact zAE hHeld hb' | exact zAA hHeld _ | exact hHeld)); (try clear hb'); clear hHeld hK K; intro hHeld; (try simp only [Act.put,List.setIfInBounds_toArray,List.set_cons_zero,List.set_cons_succ])))
          first | refine zAI ?_ | skip
          have HRC:=zIn (HRB.out.later hHeld)
          clear hHeld cv r0 r1 r2 r3 HRB
          go_wp2_with fail
          go_roundw
          case rel=>exact ⟨n + 1,m + 1 + sn,l3,Y3,J3,Yj,by omega,by omega,by go_num,HRC,HOKn⟩
          case measure=>first | omega | (simp [RowKit.intOf]; done) | (simp [RowKit.intOf]; omega)
      · obtain rfl : n = O.length:=by omega
        obtain ⟨hok,hta⟩:=HNO.out rfl
        rw [hok] at d7
        have HTA:=zIn hta
        have hne : ((O.length : Int) == (O.length : Int)) = true:=beq_self_eq_true _
        clear hok hta HYES HNO hnl hn
        have HDG:=zIn (HDE.out.later (zAA (Below.refl _ _) (.cells #[.bool false,.int .u64 d.v,.int .i64 d.lo,.int .i64 d.hi] 75)))
        go_wp2_with fail
        clear d7 d8 d9 d10 hidx hql hqi htb hcap9 HDE
        refine (HDG.out.yd.deedsT (by omega) (by show T ≤ 1000; omega)).mono ?_
        rintro r wd ⟨A9,cp9,tb2,rfl,hb9,hD9⟩
        have HDH:=zIn (HDG.out.later hb9)
        have HD9:=zIn hD9
        clear hb9 hD9 HDG
        go_wp2_with fail
        refine (zD7 wd A9 Y3.ds.length cp9 tb2 0 Y3.ds HD9.out HFV.out (by omega)).mono ?_
        rintro r we ⟨mb,mn,rfl,hM,hbe⟩
        have HM:=zIn hM
        have HZ:=zIn (zAE HB2.out (HDH.out.later hbe).yd.h.below)
        clear hM hbe HDH HD9 HFV
        go_wp2_with (at_len; refine zCj (t':=0) rfl _ _ rfl zDF rfl HM.out ?_; intro nk hk; obtain rfl:=zEE hk (fun x=>decide_eq_false (fun h=>h (HTA.out x))))
        go_ret
        exact ⟨rfl,HZ.out⟩
end Go.Proofs.YtebgjfhaolgcjaaGreat
