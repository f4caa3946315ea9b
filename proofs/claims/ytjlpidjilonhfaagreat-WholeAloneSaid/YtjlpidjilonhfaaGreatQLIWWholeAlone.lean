/-
  WholeAlone answers true for all numbers and lists of moves, and leaves all memory that was there as it was. No condition.
-/
import Derived.Test.YtjlpidjilonhfaaGreatQLI9
import Derived.Test.YtjlpidjilonhfaaGreatQLI10
import Derived.Test.YtjlpidjilonhfaaGreatQLI11
namespace Go.Proofs.YtjlpidjilonhfaaGreat
open Go.RowKit
set_option linter.unusedVariables false

theorem made_i64a (n : Nat) : (madeCells (Value.int .i64 0).cells (n * 1)).toList = (List.replicate n (0 : Int)).map (Value.int .i64):=by
  rw [Nat.mul_one,List.map_replicate]
  exact toList_madeCells_one (.int .i64 0) n
theorem base0 (x : LM) : ({ x with kind:=0,odd:=0 } : LM).base.k = 0:=by
  have h : LM.k { x with kind:=0,odd:=0 } = 0:=by
    unfold LM.k
    show IntKind.u64.wrap 0 % 3 = 0
    rw [IntKind.wrap_u64]
    rfl
  unfold LM.base
  rw [if_pos h]
  show (if x.take = true then _ else _ : CM).k = 0
  cases x.take <;> rfl
theorem rowL_none (w : World) : RowL w none 0 []:=⟨Nat.le_refl _,fun i v hi=>by simp at hi,fun v hv=>by cases hv⟩
set_option maxRecDepth 100000 in
set_option maxHeartbeats 8000000 in
theorem walk_WholeAlone (a0 : Int) (a1 : Int) (a2 : Int) (a3 : Option Addr) (len3 cap3 : Nat) (w : World) (w0 : (Lit.int .i64 a0).wf = true) (w1 : (Lit.int .i64 a1).wf = true) (w2 : (Lit.int .i64 a2).wf = true) (w3 : IsRows w [.inl .i64,.inl .i64,.inl .i64,.inl .i64,.inr true,.inr true,.inl .u64,.inl .i64] a3 len3 cap3) :
    Calls Tryz.prog 3 #[.int .i64 a0,.int .i64 a1,.int .i64 a2,.slice a3 len3 cap3] w fun e w'=>e = .returned (.bool true) ∧ Below w.heap.size w w':=by
  clear w0 w1 w2
  obtain ⟨V,rfl,hV⟩:=zEe w3
  have HV:=zIo hV
  clear w3 hV
  rcases Nat.lt_or_ge 60 V.length with hbig | hs4
  · have hbig' : (60 : Int) < (V.length : Int):=by omega
    go_enter Tryz.func3,Tryz.ntmps3
    go_wp2_with fail
    refine (zBs _).mono ?_
    rintro e w1 ⟨rfl,hb1⟩
    go_wp2_with fail
    go_ret
    exact ⟨rfl,hb1⟩
  have hs5 : ¬ (60 : Int) < (V.length : Int):=by omega
  have HSC:=zIo (fun w=>zCw a0 a1 a2 2 0 none 0 [] w (rowL_none w) (by decide) (.inr (.inr rfl)))
  obtain ⟨T,hT⟩ : ∃ T : Nat,1 + a0 % 4 = T:=⟨(1 + a0 % 4).toNat,by omega⟩
  obtain ⟨s,hs⟩ : ∃ s : Nat,1 + a1 % 4 = s:=⟨(1 + a1 % 4).toNat,by omega⟩
  obtain ⟨so,hso⟩ : ∃ so,wrap64 ((IntKind.u64.wrap a2).tmod 5) = so:=⟨_,rfl⟩
  have ho:=src5 a2
  rw [hso] at ho
  rw [hT,hs,hso] at HSC
  obtain ⟨N,Q,hbn⟩:=BN.mk' (t:=T) (s:=s) (so:=so) (d:=1) (by omega) (by omega) (by omega) (by omega) (by decide) (by decide) ho.1 ho.2
  have HBN:=zIo hbn
  have hT4 : T ≤ 4:=by omega
  have hT1 : 1 ≤ T:=by omega
  have hs4' : 1 ≤ s ∧ s ≤ 4:=by omega
  have hn16 : N ≤ 16:=by
    have h:=hbn.lay.eq
    have h2 : T * s = N:=by rw [← Int.natCast_mul] at h; omega
    rw [← h2]
    exact Nat.le_trans (Nat.mul_le_mul hT4 hs4'.2) (by decide)
  clear hT hs hso hbn
  go_enter Tryz.func3,Tryz.ntmps3
  go_wp2_with fail
  refine (zBs _).mono ?_
  rintro e w1 ⟨rfl,hb1⟩
  have HB1:=zIo hb1
  have HV1:=zIo (HV.out.later hb1)
  clear hb1 HV
  go_wp2_with fail
  refine (HSC.out _).mono ?_
  rintro r w2 ⟨A2,cp2,hS⟩
  have hb3:=zAA hS.below (.cells #[.int .i64 T,.int .i64 s,.int .i64 so,.int .i64 1,.slice A2 0 cp2] 29)
  have HIS : Hid (IsAt (w2.alloc (.cells #[.int .i64 T,.int .i64 s,.int .i64 so,.int .i64 1,.slice A2 0 cp2] 29)) A2 (flatM [])):=zIo ((IsAt.own hS.row).later (zAA (Below.refl _ _) _))
  obtain rfl:=hS.ret
  rw [show (topS T 2 0 []).2.2 = [] from rfl]
  unfold scV
  have HB3:=zIo (zAE HB1.out hb3)
  have HV3:=zIo (HV1.out.later hb3)
  clear hS hb3 HSC HB1 HV1 hs5
  go_wp2_with fail
  refine (zDU T s so 1 N A2 cp2 [] _ HIS.out (fun m hm=>by cases hm) (by decide) HBN.out.lay ho.1 ho.2 (by decide) (by decide)).mono ?_
  rintro r w4 ⟨W,l,yb,ytb,p,c,Yf,An,J,g,rfl,hbW,hR⟩
  have HD : Hid (YdL W w4 l ⟨yb,ytb,p,c,T,s,so,1,T⟩ N (Yf 0) J 0):=zIo hR.yd
  have HAO : Hid (AlOk ⟨yb,ytb,p,c,T,s,so,1,T⟩ N s 0 Yf (Yf 0) 0 [] (fun _=>0) (List.replicate T 0)):=zIo (AlOk.start hR.tr.tr rfl)
  have HB4:=zIo (zAE HB3.out hbW)
  have HVM:=zIo (HV3.out.later hbW)
  clear hR hbW HIS HB3 HV3
  obtain ⟨Wd,hWd⟩ : ∃ Wd,T * bL N Q T + 1 = Wd:=⟨_,rfl⟩
  obtain ⟨Mo,hMo⟩ : ∃ Mo,T * Wd = Mo:=⟨_,rfl⟩
  have HPM:=zIo (fun (w' : World) (l : List Thing) (n : Nat) (Y : Yd) (J : Nat → Nat) (h : YdL W w' l ⟨yb,ytb,p,c,T,s,so,1,T⟩ N Y J n)=>zCB h HBN.out hWd hMo)
  have HMO : Hid (∀ sn,sn ≤ max Q (4 * N + 10) → sn ≤ Mo):=zIo (fun sn h=>by rw [← hMo, ← hWd]; exact zDd h hT1)
  clear hWd hMo
  obtain ⟨v6,vd6,X6,hA6⟩:=HD.out.h
  have HA6:=zIo hA6
  have hmm := @run_makeMap Tryz.prog
  clear hA6
  go_wp2_with fail
  refine (zBv HA6.out).mono ?_
  rintro r w5 ⟨rfl,hb⟩
  have HD5:=zIo (HD.out.later hb)
  have hsz:=HD5.out.h.size
  clear hb HD HA6
  unfold cf
  obtain ⟨im,hm1,hm2,hm3,hm4⟩:=zBu.info
  go_wp2_with (at_make; refine wpList_make_full _ rfl _ _ 40 rfl W.heap.size 3 im (.int .i64 0) 1 zBu.und hm1 hm2 hm3 .i64 .i64 _ _ T rfl rfl rfl rfl (by rw [hm4]; omega) (by unfold maxLen; omega) (by simp only [World.size_alloc]; omega) ?_; intro w6 hown hg; rw [made_i64a,World.size_alloc,World.size_alloc,World.size_alloc] at hown; obtain ⟨l6,jr,jf,jm,jc,hal⟩:=AlAt.begin HD5.out [i64 T,i64 s,i64 so,i64 1] 26 hown hg; have HAL:=zIo hal; clear hown hg hal)
  clear hm1 hm2 hm3 hm4 HD5 hmm hsz
  generalize w5.heap.size + 1 + 1 + 1 = fb at HAL ⊢
  generalize w5.heap.size + 1 + 1 = mb at HAL ⊢
  generalize w5.heap.size + 1 = rb0 at HAL ⊢
  generalize w5.heap.size = cb at HAL ⊢
  go_loopw [15,55] (fun rv iv wr => ∃ (i m nn jr : Nat) (l : List Thing) (Y : Yd) (J : Nat → Nat) (Yk : Nat → Yd) (A : Option Addr) (cp : Nat) (row : List Int) (F : Int → Int) (M : Int → Bool) (full : List Int),i ≤ V.length ∧ m ≤ i * 6000 ∧ nn ≤ i ∧ rv = .slice A row.length cp ∧ iv = .int .i64 i ∧ Hid (AlAt W wr l ⟨yb,ytb,p,c,T,s,so,1,T⟩ N Y J m jr jf jm [(jc,cb,[i64 T,i64 s,i64 so,i64 1])] A cp row fb full mb nn F M) ∧ Hid (AlOk ⟨yb,ytb,p,c,T,s,so,1,T⟩ N s m Yk Y i row F full)) (fun _ iv _=>V.length - (RowKit.intOf iv).toNat)
  case atStart=>exact ⟨0,0,0,jr,l6,Yf 0,J,Yf,_,0,[],fun _=>0,fun _=>false,List.replicate T 0,Nat.zero_le _,Nat.zero_le _,Nat.zero_le _,rfl,rfl,HAL,HAO⟩
  case round =>
    clear HAL HAO
    obtain ⟨i,m,nn,jr,l,Y,J,Yk,A,cp,row,F,M,full,hi,hm,hnn,rfl,rfl,HAL,HAO⟩:=hrel
    rcases Nat.lt_or_ge i V.length with hil | hil
    · have hil' : (i : Int) < (V.length : Int):=by omega
      obtain ⟨v,hv⟩ : ∃ v,V[i]? = some v:=⟨_,List.getElem?_eq_getElem hil⟩
      obtain ⟨vb,voff,rfl,hvat⟩:=HVM.out.at' i v hv
      obtain ⟨e0,e1,e2,e3,e4,e5,e6,e7⟩:=hvat.later HAL.out.yd.h.below
      have hvcap:=HVM.out.cap
      have hvl:=World.block_lt_of_cell? _ _ e0
      have HVF:=zIo (HVM.out.fit v (List.mem_of_getElem? hv))
      have HAa:=zIo (HAL.out.later (zAA (Below.refl _ _) (({ v with kind:=0,odd:=0 } : LM).obj 43)))
      clear hvat hv
      go_wp2_with fail
      refine (zB1 { v with kind:=0,odd:=0 } _).mono ?_
      rintro r w6 ⟨rfl,hb6⟩
      have HAb:=zIo (HAa.out.later hb6)
      rw [LM.even rfl]
      have hbb:=LM.base_beg (v := { v with kind:=0,odd:=0 }) (base0 v)
      clear hb6 HAa HAL e0 e1 e2 e3 e4 e5 e6 e7 hvl HVF
      generalize ({ v with kind:=0,odd:=0 } : LM).base = bb at hbb ⊢
      obtain ⟨kk,who,ck,ce,xv,stt,nz⟩:=bb
      obtain ⟨hwho0,hwho1,hnz,hce,hck⟩:=hbb
      simp only at hwho0 hwho1 hnz hce hck
      subst hnz
      have HCE:=zIo hce
      obtain ⟨k,hkT,hke⟩:=zCa (u:=who) (T:=T) hwho0 hT1
      have hT0 : ¬ T = 0:=by omega
      have hTi : ¬ (T : Int) = 0:=by omega
      have hx1 : IntKind.i64.wrap (1000 + (i : Int)) = 1000 + (i : Int):=IntWalk.i64_in _ (by omega)
      have hx2 : IntKind.u64.wrap (1000 + (i : Int)) = 1000 + (i : Int):=by rw [IntKind.wrap_u64]; omega
      have hco:=HAb.out.obj List.mem_cons_self
      have q0:=hco.at' 0 _ rfl
      have hcbl:=hco.lt
      have HID:=zIo (HAO.out.idle k (by show k < T; exact hkT))
      have hflen : full.length = T:=HAO.out.flen
      have hrowl:=HAO.out.rowLen
      clear hce hco
      rcases hck with ⟨rfl,rfl⟩ | ⟨rfl,hxv,hst0,hst1⟩
      · skip
        go_wp2_with fail
        obtain ⟨l7,jb,hal⟩:=HAb.out.box (zAA (Below.refl _ _) (.cells #[.int .i64 kk,.int .i64 who,.int .i64 0,.int .i64 ce,.int .u64 (1000 + (i : Int)),.int .i64 0,.int .i64 0] 50)) (IsObj.made w6 [.int .i64 kk,.int .i64 who,.int .i64 0,.int .i64 ce,.int .u64 (1000 + (i : Int)),.int .i64 0,.int .i64 0] 50) (Nat.le_refl _)
        have HAd:=zIo hal
        clear hal HAb q0 hcbl hke hx1 hx2
        generalize w6.alloc (.cells #[.int .i64 kk,.int .i64 who,.int .i64 0,.int .i64 ce,.int .u64 (1000 + (i : Int)),.int .i64 0,.int .i64 0] 50) = w7 at HAd ⊢
        generalize w6.heap.size = bx at HAd ⊢
        refine (HAd.out.yd.callIdle (by omega) k HID.out false rfl ce (1000 + (i : Int)) 0 HCE.out (by omega) (by omega)).mono ?_
        rintro r w8 ⟨rfl,l8,J2,hd,hg⟩
        have HAe:=zIo (HAd.out.go hd hg)
        obtain ⟨Yh,hYt,hYl,hYo⟩ : ∃ Yh : Nat → Yd,YTr ⟨yb,ytb,p,c,T,s,so,1,T⟩ N Yh (m + 1) ∧ Yh (m + 1) = Y.call k 0 ce (1000 + (i : Int)) 0 (wkB ⟨yb,ytb,p,c,T,s,so,1,T⟩ N k false ce (1000 + (i : Int)) 0) ∧ Yh m = Y:=⟨_,HAO.out.tr.callN HAO.out.at' (k:=k) false (kd:=0) (e:=ce) (x:=(1000 + (i : Int))) (s:=0) rfl HCE.out (by omega) (by omega) HID.out (by omega),YTr.snoc_last _ _ _,by show (if m ≤ m then Yk m else _) = Y; rw [if_pos (Nat.le_refl _)]; exact HAO.out.at'⟩
        have HYT:=zIo hYt
        have HYL:=zIo hYl
        have HYO:=zIo hYo
        have HDC : Hid (YdL W w8 l8 ⟨yb,ytb,p,c,T,s,so,1,T⟩ N (Yh (m + 1)) J2 (m + 1)):=zIo (by rw [hYl]; exact hd)
        clear hd hg hYt hYl hYo HAd
        go_wp2_with fail
        refine (zBY (n:=m + 1) HDC.out HYT.out (by omega) (by show T ≤ 4; omega) (by omega) (by show (s : Int) ≤ 4; omega) (by show (1 : Int) ≤ 3; decide)).mono ?_
        rintro r wb ⟨sn,jn,l3,Y3,J3,Yj,rfl,hF⟩
        have hfew:=hF.few
        have hst:=HMO.out sn (zBR HYL.out hkT HAO.out.idle HBN.out.q (hF.same (m + 1) (Nat.le_refl _)) hF.tr hF.at' hF.tick hF.idle)
        have hle : (sn : Int) ≤ (Mo : Int):=by omega
        obtain ⟨d,hdl,hdq,hdk,hiff,hno,hyes⟩:=HAO.out.put rfl (by omega) (by omega) hkT HCE.out rfl HYL.out (fun q hq=>hF.same q hq) HYO.out hF.tr hF.at' hF.tick hF.idle hfew
        have HAf:=zIo (HAe.out.go hF.yd (by have h:=hF.go; rw [HYL.out] at h; exact h))
        have HNO:=zIo hno
        have HYES:=zIo hyes
        have HIFF:=zIo hiff
        obtain ⟨fw,hfw⟩ : ∃ fw,full.getD k 0 = fw:=⟨_,rfl⟩
        have hfwb:=HAO.out.fullIn (v:=k) hkT
        rw [hfw] at hfwb
        have HFW:=zIo hfw
        have HFI:=zIo (fun v (hv : v < T)=>HAO.out.fullIn (v:=v) hv)
        clear hF hno hyes hiff hst HAe HDC HYT HYL HYO HID HAO hdk hfw
        go_wp2_with fail
        refine (HPM.out _ _ _ _ _ HAf.out.yd).mono ?_
        rintro r wc0 ⟨rfl,hbm⟩
        have HAg:=zIo (HAf.out.later hbm)
        clear hbm HAf
        go_wp2_with fail
        refine (HAg.out.yd.deedsT (by omega) (by show T ≤ 1000; omega)).mono ?_
        rintro r wc ⟨A9,cp9,tb,rfl,hb9,hD9⟩
        have HAh:=zIo (HAg.out.later hb9)
        obtain ⟨n4,hn4⟩ : ∃ n4,Y3.ds.length = n4:=⟨_,rfl⟩
        rw [hn4] at hdl hD9 ⊢
        obtain ⟨rfl,htb,hat⟩:=hD9.one0 hdq
        have hcap9:=hD9.2.1
        obtain ⟨_,_,_,_,_,_,_,d7,d8,d9,d10⟩:=hat
        have hidx : (n4 : Int) - 1 = (i : Int):=by omega
        have hql : i < n4:=by omega
        have hqi : (i : Int) < (n4 : Int):=by omega
        have hob:=HAh.out.obj List.mem_cons_self
        have c2:=hob.at' 2 _ rfl
        have hbxl:=hob.lt
        clear hb9 hD9 HAg hdl hdq hn4 hob hle
        rcases Bool.eq_false_or_eq_true d.ok with hok | hok
        · rw [hok] at d7
          obtain ⟨l9,jq,hal⟩:=HAh.out.box (zAA (Below.refl _ _) (.cells #[.bool true,.int .u64 d.v,.int .i64 d.lo,.int .i64 d.hi] 59)) (IsObj.made wc [.bool true,.int .u64 d.v,.int .i64 d.lo,.int .i64 d.hi] 59) (Nat.le_refl _)
          have HAi:=zIo hal
          have HOK:=zIo hok
          clear hok hal
          go_upto_if 105 with fail
          clear d7 d8 d9 d10 hidx hql hqi htb hcap9 c2 hbxl HAh
          generalize wc.alloc (.cells #[.bool true,.int .u64 d.v,.int .i64 d.lo,.int .i64 d.hi] 59) = wd at HAi ⊢
          generalize wc.heap.size = rb at HAi ⊢
          have hro:=HAi.out.obj (j:=jq) (b:=rb) List.mem_cons_self; have hmo:=HAi.out.obj (j:=jb) (b:=bx) (List.mem_cons_of_mem _ List.mem_cons_self); have hco:=HAi.out.obj (j:=jc) (b:=cb) (List.mem_cons_of_mem _ (List.mem_cons_of_mem _ List.mem_cons_self)); obtain ⟨r0,r1,m3,m4,q1⟩ : _ ∧ _ ∧ _ ∧ _ ∧ _:=⟨hro.at' 0 _ rfl,hro.at' 1 _ rfl,hmo.at' 3 _ rfl,hmo.at' 4 _ rfl,hco.at' 1 _ rfl⟩; have hrl:=hro.lt; have hml:=hmo.lt; have hcl:=hco.lt; have hfl:=HAi.out.fullLt
          have cf : _ = some (i64 fw):=(HAi.out.fullAt (j:=k) (by omega)).trans (by rw [HFW.out])
          have hfs : fw < (s : Int):=by have h:=HIFF.out.1 HOK.out; rw [HFW.out] at h; exact h
          have hfd : decide (fw < (s : Int)) = true:=decide_eq_true hfs
          have hz0 : decide ((k : Int) < 0) = false:=decide_eq_false (by omega)
          have hz1 : decide (T ≤ k) = false:=decide_eq_false (by omega)
          go_wp2_with fail
          refine zAN ((0,true) :: (1,true) :: (2,true) :: (3,true) :: (4,true) :: (5,true) :: (6,true) :: (7,true) :: (8,true) :: (9,true) :: []) (by kernel_rfl) (by kernel_rfl) (by kernel_rfl) (by decide) (fun _ _ _ _ _ h=>h) (fun hHeld=>?_)
          repeat (first
            | (refine zAC (v := ?_) rfl ?_ ?_ ?_; rotate_left 1; rfl; (focus (intro wS hSw; have hk:=zAM hSw; go_simp; first | done | with_reducible rfl)); (try simp only [Act.put,List.setIfInBounds_toArray,List.set_cons_zero,List.set_cons_succ]))
            | (refine zAB rfl ?_ ?_; rfl; (try simp only [Act.put,List.setIfInBounds_toArray,List.set_cons_zero,List.set_cons_succ]))
            | (refine zAH rfl (fun K hK=>?_); go_simp; (try skip); (try go_wp2_with fail); refine hK.out _ _ ?_ ?_; (focus (first | exact zAE hHeld hb' | exact zAA hHeld _ | exact hHeld)); (try clear hb'); clear hHeld hK K; intro hHeld; (try simp only [Act.put,List.setIfInBounds_toArray,List.set_cons_zero,List.set_cons_succ])))
          first | refine zAJ ?_ | skip
          have HAj:=zIo (HAi.out.later hHeld)
          clear hHeld cf
          clear hro hmo hco r0 r1 m3 m4 q1 hrl hml hcl hfl
          have hro':=HAj.out.obj (j:=jq) (b:=rb) List.mem_cons_self; have hmo':=HAj.out.obj (j:=jb) (b:=bx) (List.mem_cons_of_mem _ List.mem_cons_self); have hco':=HAj.out.obj (j:=jc) (b:=cb) (List.mem_cons_of_mem _ (List.mem_cons_of_mem _ List.mem_cons_self)); obtain ⟨r0',r1',m3',m4',q1'⟩ : _ ∧ _ ∧ _ ∧ _ ∧ _:=⟨hro'.at' 0 _ rfl,hro'.at' 1 _ rfl,hmo'.at' 3 _ rfl,hmo'.at' 4 _ rfl,hco'.at' 1 _ rfl⟩; have hrl':=hro'.lt; have hml':=hmo'.lt; have hcl':=hco'.lt; have hfl':=HAj.out.fullLt
          have cf' : _ = some (i64 fw):=(HAj.out.fullAt (j:=k) (by omega)).trans (by rw [HFW.out])
          have hfwn : IntKind.i64.wrap (fw + 1) = fw + 1:=IntWalk.i64_in _ (by omega)
          rcases HCE.out with rfl | rfl
          · obtain ⟨row8,hrow8⟩ : ∃ r,r = (1000 + (i : Int)) :: row:=⟨_,rfl⟩
            have HR8:=zIo hrow8
            have HOK8 : Hid (AlOk ⟨yb,ytb,p,c,T,s,so,1,T⟩ N s (m + 1 + sn) Yj Y3 (i + 1) row8 (putF F (1000 + (i : Int)) k) (full.set k (fw + 1))):=zIo (by have h:=HYES.out HOK.out; rw [if_pos rfl,HFW.out] at h; rw [hrow8]; exact h)
            clear hrow8
            go_wp2_with (first
              | (at_builtin; refine zAI rfl _ _ 38 rfl W.heap.size 41 _ 1 8 zAW (.slice (some ⟨_,0,none⟩) 1 1) 1 [.int .u64 (1000 + (i : Int))] rfl (zDH _ W.heap.size _ HAj.out.yd.h.size) A row.length cp (row.map (Value.int .u64)) rfl (zA7 HAj.out.src (zAA (Below.refl _ _) _)) (by unfold maxLen; omega) (by omega) (HAj.out.later (zAA (Below.refl _ _) _)).yd.h.size ?_; intro v8 w8 hG; obtain ⟨A8,cp8,l8,jr8,rfl,hal8⟩:=HAj.out.fresh (row':=row8) (zAA (Below.refl _ _) _) (zDH _ W.heap.size _ HAj.out.yd.h.size) (Nat.le_refl _) hG (by rw [HR8.out,List.length_cons]; omega) (by rw [HR8.out]; rfl); have HAk:=zIo hal8; clear hG hal8; have hro8:=HAk.out.obj (j:=jq) (b:=rb) List.mem_cons_self; have hmo8:=HAk.out.obj (j:=jb) (b:=bx) (List.mem_cons_of_mem _ List.mem_cons_self); have hco8:=HAk.out.obj (j:=jc) (b:=cb) (List.mem_cons_of_mem _ (List.mem_cons_of_mem _ List.mem_cons_self)); obtain ⟨r08,r18,m38,m48,q18⟩ : _ ∧ _ ∧ _ ∧ _ ∧ _:=⟨hro8.at' 0 _ rfl,hro8.at' 1 _ rfl,hmo8.at' 3 _ rfl,hmo8.at' 4 _ rfl,hco8.at' 1 _ rfl⟩; have hrl8:=hro8.lt; have hml8:=hmo8.lt; have hcl8:=hco8.lt; have hfl8:=HAk.out.fullLt; have cf8 : _ = some (i64 fw):=(HAk.out.fullAt (j:=k) (by omega)).trans (by rw [HFW.out]); have fz8:=HAk.out.fullFz k; obtain ⟨l10,hal10⟩:=HAk.out.setFull k (fw + 1); have HAm:=zIo hal10; clear hal10; have hro9:=HAm.out.obj (j:=jq) (b:=rb) List.mem_cons_self; have hmo9:=HAm.out.obj (j:=jb) (b:=bx) (List.mem_cons_of_mem _ List.mem_cons_self); have hco9:=HAm.out.obj (j:=jc) (b:=cb) (List.mem_cons_of_mem _ (List.mem_cons_of_mem _ List.mem_cons_self)); obtain ⟨r09,r19,m39,m49,q19⟩ : _ ∧ _ ∧ _ ∧ _ ∧ _:=⟨hro9.at' 0 _ rfl,hro9.at' 1 _ rfl,hmo9.at' 3 _ rfl,hmo9.at' 4 _ rfl,hco9.at' 1 _ rfl⟩; have hrl9:=hro9.lt; have hml9:=hmo9.lt; have hcl9:=hco9.lt; have hfl9:=HAm.out.fullLt)
              | (at_mapUpdate; refine zBF rfl _ _ _ _ rfl zCD rfl HAm.out.map (by unfold maxLen; omega) (1000 + (i : Int)) (k : Int) rfl rfl (WalkArith.wf_u64 (by omega)) (zDT (by omega) (by omega)) ?_; intro w9 hM9 hG9; obtain ⟨l11,hal11⟩:=HAm.out.setMap hM9 hG9; have HAn:=zIo hal11; clear hM9 hG9 hal11; have HAz:=zIo (HAn.out.less (X':=[(jc,cb,[i64 T,i64 s,i64 so,i64 1])]) (fun x hx=>List.mem_cons_of_mem _ (List.mem_cons_of_mem _ hx)))))
            go_roundw
            case rel=>exact ⟨i + 1,m + 1 + sn,nn + 1,jr8,l11,Y3,J3,Yj,A8,cp8,row8,_,_,full.set k (fw + 1),by omega,by omega,by omega,rfl,by go_num,HAz,HOK8⟩
            case measure=>first | omega | (simp [RowKit.intOf]; done) | (simp [RowKit.intOf]; omega)
          · obtain ⟨row8,hrow8⟩ : ∃ r,r = row ++ [(1000 + (i : Int))]:=⟨_,rfl⟩
            have HR8:=zIo hrow8
            have HOK8 : Hid (AlOk ⟨yb,ytb,p,c,T,s,so,1,T⟩ N s (m + 1 + sn) Yj Y3 (i + 1) row8 (putF F (1000 + (i : Int)) k) (full.set k (fw + 1))):=zIo (by have h:=HYES.out HOK.out; rw [if_neg (by decide),HFW.out] at h; rw [hrow8]; exact h)
            clear hrow8
            have HAj1:=zIo (HAi.out.later (zAA (Below.refl _ _) (.cells #[.int .u64 (1000 + (i : Int))] 41)).drew)
            go_wp2_with (first
              | (at_builtin; refine zAI rfl _ _ 38 rfl W.heap.size 41 _ 1 8 zAW (.slice A row.length cp) row.length (row.map (Value.int .u64)) rfl (HAj1.out.yd.has HAj1.out.rr) (some ⟨_,0,none⟩) 1 1 [.int .u64 (1000 + (i : Int))] rfl (zA7 (zBC _ [.int .u64 (1000 + (i : Int))] 41 1 1 rfl (zDM _ _)) (Below.refl _ _).drew) (by unfold maxLen; omega) (by omega) HAj1.out.yd.h.size ?_; intro v8 w8 hG; have hg8:=HAj1.out.grow (row':=row8) hG (by rw [HR8.out,List.length_append]; rfl) (by rw [HR8.out,List.map_append]; rfl); clear hG; obtain ⟨A8,cp8,l8,rfl,hal8⟩:=hg8; have HAk:=zIo hal8; clear hal8; have hro8:=HAk.out.obj (j:=jq) (b:=rb) List.mem_cons_self; have hmo8:=HAk.out.obj (j:=jb) (b:=bx) (List.mem_cons_of_mem _ List.mem_cons_self); have hco8:=HAk.out.obj (j:=jc) (b:=cb) (List.mem_cons_of_mem _ (List.mem_cons_of_mem _ List.mem_cons_self)); obtain ⟨r08,r18,m38,m48,q18⟩ : _ ∧ _ ∧ _ ∧ _ ∧ _:=⟨hro8.at' 0 _ rfl,hro8.at' 1 _ rfl,hmo8.at' 3 _ rfl,hmo8.at' 4 _ rfl,hco8.at' 1 _ rfl⟩; have hrl8:=hro8.lt; have hml8:=hmo8.lt; have hcl8:=hco8.lt; have hfl8:=HAk.out.fullLt; have cf8 : _ = some (i64 fw):=(HAk.out.fullAt (j:=k) (by omega)).trans (by rw [HFW.out]); have fz8:=HAk.out.fullFz k; obtain ⟨l10,hal10⟩:=HAk.out.setFull k (fw + 1); have HAm:=zIo hal10; clear hal10; have hro9:=HAm.out.obj (j:=jq) (b:=rb) List.mem_cons_self; have hmo9:=HAm.out.obj (j:=jb) (b:=bx) (List.mem_cons_of_mem _ List.mem_cons_self); have hco9:=HAm.out.obj (j:=jc) (b:=cb) (List.mem_cons_of_mem _ (List.mem_cons_of_mem _ List.mem_cons_self)); obtain ⟨r09,r19,m39,m49,q19⟩ : _ ∧ _ ∧ _ ∧ _ ∧ _:=⟨hro9.at' 0 _ rfl,hro9.at' 1 _ rfl,hmo9.at' 3 _ rfl,hmo9.at' 4 _ rfl,hco9.at' 1 _ rfl⟩; have hrl9:=hro9.lt; have hml9:=hmo9.lt; have hcl9:=hco9.lt; have hfl9:=HAm.out.fullLt)
              | (at_mapUpdate; refine zBF rfl _ _ _ _ rfl zCD rfl HAm.out.map (by unfold maxLen; omega) (1000 + (i : Int)) (k : Int) rfl rfl (WalkArith.wf_u64 (by omega)) (zDT (by omega) (by omega)) ?_; intro w9 hM9 hG9; obtain ⟨l11,hal11⟩:=HAm.out.setMap hM9 hG9; have HAn:=zIo hal11; clear hM9 hG9 hal11; have HAz:=zIo (HAn.out.less (X':=[(jc,cb,[i64 T,i64 s,i64 so,i64 1])]) (fun x hx=>List.mem_cons_of_mem _ (List.mem_cons_of_mem _ hx)))))
            go_roundw
            case rel=>exact ⟨i + 1,m + 1 + sn,nn + 1,jr,l11,Y3,J3,Yj,A8,cp8,row8,_,_,full.set k (fw + 1),by omega,by omega,by omega,rfl,by go_num,HAz,HOK8⟩
            case measure=>first | omega | (simp [RowKit.intOf]; done) | (simp [RowKit.intOf]; omega)
        · rw [hok] at d7
          obtain ⟨l9,jq,hal⟩:=HAh.out.box (zAA (Below.refl _ _) (.cells #[.bool false,.int .u64 d.v,.int .i64 d.lo,.int .i64 d.hi] 59)) (IsObj.made wc [.bool false,.int .u64 d.v,.int .i64 d.lo,.int .i64 d.hi] 59) (Nat.le_refl _)
          have HAi:=zIo hal
          have HOK:=zIo hok
          clear hok hal
          go_upto_if 105 with fail
          clear d7 d8 d9 d10 hidx hql hqi htb hcap9 c2 hbxl HAh
          generalize wc.alloc (.cells #[.bool false,.int .u64 d.v,.int .i64 d.lo,.int .i64 d.hi] 59) = wd at HAi ⊢
          generalize wc.heap.size = rb at HAi ⊢
          have hro:=HAi.out.obj (j:=jq) (b:=rb) List.mem_cons_self; have hmo:=HAi.out.obj (j:=jb) (b:=bx) (List.mem_cons_of_mem _ List.mem_cons_self); have hco:=HAi.out.obj (j:=jc) (b:=cb) (List.mem_cons_of_mem _ (List.mem_cons_of_mem _ List.mem_cons_self)); obtain ⟨r0,r1,m3,m4,q1⟩ : _ ∧ _ ∧ _ ∧ _ ∧ _:=⟨hro.at' 0 _ rfl,hro.at' 1 _ rfl,hmo.at' 3 _ rfl,hmo.at' 4 _ rfl,hco.at' 1 _ rfl⟩; have hrl:=hro.lt; have hml:=hmo.lt; have hcl:=hco.lt; have hfl:=HAi.out.fullLt
          have cf : _ = some (i64 fw):=(HAi.out.fullAt (j:=k) (by omega)).trans (by rw [HFW.out])
          have hfs : ¬ fw < (s : Int):=fun h=>by have h2:=HIFF.out.2 (by rw [HFW.out]; exact h); rw [HOK.out] at h2; cases h2
          have hfd : decide (fw < (s : Int)) = false:=decide_eq_false hfs
          have hz0 : decide ((k : Int) < 0) = false:=decide_eq_false (by omega)
          have hz1 : decide (T ≤ k) = false:=decide_eq_false (by omega)
          go_wp2_with fail
          refine zAN ((0,true) :: (1,true) :: (2,true) :: (3,true) :: (4,true) :: (5,true) :: (6,true) :: (7,true) :: (8,true) :: (9,true) :: []) (by kernel_rfl) (by kernel_rfl) (by kernel_rfl) (by decide) (fun _ _ _ _ _ h=>h) (fun hHeld=>?_)
          repeat (first
            | (refine zAC (v := ?_) rfl ?_ ?_ ?_; rotate_left 1; rfl; (focus (intro wS hSw; have hk:=zAM hSw; go_simp; first | done | with_reducible rfl)); (try simp only [Act.put,List.setIfInBounds_toArray,List.set_cons_zero,List.set_cons_succ]))
            | (refine zAB rfl ?_ ?_; rfl; (try simp only [Act.put,List.setIfInBounds_toArray,List.set_cons_zero,List.set_cons_succ]))
            | (refine zAH rfl (fun K hK=>?_); go_simp; (try skip); (try go_wp2_with fail); refine hK.out _ _ ?_ ?_; (focus (first | exact zAE hHeld hb' | exact zAA hHeld _ | exact hHeld)); (try clear hb'); clear hHeld hK K; intro hHeld; (try simp only [Act.put,List.setIfInBounds_toArray,List.set_cons_zero,List.set_cons_succ])))
          first | refine zAJ ?_ | skip
          have HAj:=zIo (HAi.out.later hHeld)
          clear hHeld cf
          clear hro hmo hco r0 r1 m3 m4 q1 hrl hml hcl hfl
          have hro':=HAj.out.obj (j:=jq) (b:=rb) List.mem_cons_self; have hmo':=HAj.out.obj (j:=jb) (b:=bx) (List.mem_cons_of_mem _ List.mem_cons_self); have hco':=HAj.out.obj (j:=jc) (b:=cb) (List.mem_cons_of_mem _ (List.mem_cons_of_mem _ List.mem_cons_self)); obtain ⟨r0',r1',m3',m4',q1'⟩ : _ ∧ _ ∧ _ ∧ _ ∧ _:=⟨hro'.at' 0 _ rfl,hro'.at' 1 _ rfl,hmo'.at' 3 _ rfl,hmo'.at' 4 _ rfl,hco'.at' 1 _ rfl⟩; have hrl':=hro'.lt; have hml':=hmo'.lt; have hcl':=hco'.lt; have hfl':=HAj.out.fullLt
          have HAz:=zIo (HAj.out.less (X':=[(jc,cb,[i64 T,i64 s,i64 so,i64 1])]) (fun x hx=>List.mem_cons_of_mem _ (List.mem_cons_of_mem _ hx)))
          have HOKn:=zIo (HNO.out HOK.out)
          go_wp2_with fail
          go_roundw
          case rel=>exact ⟨i + 1,m + 1 + sn,nn,jr,l9,Y3,J3,Yj,A,cp,row,F,M,full,by omega,by omega,by omega,rfl,by go_num,HAz,HOKn⟩
          case measure=>first | omega | (simp [RowKit.intOf]; done) | (simp [RowKit.intOf]; omega)

      · skip
        go_wp2_with fail
        obtain ⟨l7,jb,hal⟩:=HAb.out.box (zAA (Below.refl _ _) (.cells #[.int .i64 kk,.int .i64 who,.int .i64 1,.int .i64 ce,.int .u64 0,.int .i64 stt,.int .i64 0] 50)) (IsObj.made w6 [.int .i64 kk,.int .i64 who,.int .i64 1,.int .i64 ce,.int .u64 0,.int .i64 stt,.int .i64 0] 50) (Nat.le_refl _)
        have HAd:=zIo hal
        clear hal HAb q0 hcbl hke hx1 hx2
        generalize w6.alloc (.cells #[.int .i64 kk,.int .i64 who,.int .i64 1,.int .i64 ce,.int .u64 0,.int .i64 stt,.int .i64 0] 50) = w7 at HAd ⊢
        generalize w6.heap.size = bx at HAd ⊢
        refine (HAd.out.yd.callIdle (by omega) k HID.out true rfl ce 0 stt HCE.out (by omega) (by omega)).mono ?_
        rintro r w8 ⟨rfl,l8,J2,hd,hg⟩
        have HAe:=zIo (HAd.out.go hd hg)
        obtain ⟨Yh,hYt,hYl,hYo⟩ : ∃ Yh : Nat → Yd,YTr ⟨yb,ytb,p,c,T,s,so,1,T⟩ N Yh (m + 1) ∧ Yh (m + 1) = Y.call k 1 ce 0 stt (wkB ⟨yb,ytb,p,c,T,s,so,1,T⟩ N k true ce 0 stt) ∧ Yh m = Y:=⟨_,HAO.out.tr.callN HAO.out.at' (k:=k) true (kd:=1) (e:=ce) (x:=0) (s:=stt) rfl HCE.out (by omega) (by omega) HID.out (by omega),YTr.snoc_last _ _ _,by show (if m ≤ m then Yk m else _) = Y; rw [if_pos (Nat.le_refl _)]; exact HAO.out.at'⟩
        have HYT:=zIo hYt
        have HYL:=zIo hYl
        have HYO:=zIo hYo
        have HDC : Hid (YdL W w8 l8 ⟨yb,ytb,p,c,T,s,so,1,T⟩ N (Yh (m + 1)) J2 (m + 1)):=zIo (by rw [hYl]; exact hd)
        clear hd hg hYt hYl hYo HAd
        go_wp2_with fail
        refine (zBY (n:=m + 1) HDC.out HYT.out (by omega) (by show T ≤ 4; omega) (by omega) (by show (s : Int) ≤ 4; omega) (by show (1 : Int) ≤ 3; decide)).mono ?_
        rintro r wb ⟨sn,jn,l3,Y3,J3,Yj,rfl,hF⟩
        have hfew:=hF.few
        have hst:=HMO.out sn (zBR HYL.out hkT HAO.out.idle HBN.out.q (hF.same (m + 1) (Nat.le_refl _)) hF.tr hF.at' hF.tick hF.idle)
        have hle : (sn : Int) ≤ (Mo : Int):=by omega
        obtain ⟨d,hdl,hdq,hdk,hiff,hno,hyes⟩:=HAO.out.get rfl (by omega) (by omega) (by omega) hkT HCE.out HYL.out hF.tr hF.at' hF.tick hF.idle hfew
        have HAf:=zIo (HAe.out.go hF.yd (by have h:=hF.go; rw [HYL.out] at h; exact h))
        have HNO:=zIo hno
        have HYES:=zIo hyes
        have HIFF:=zIo hiff
        obtain ⟨fw,hfw⟩ : ∃ fw,full.getD k 0 = fw:=⟨_,rfl⟩
        have hfwb:=HAO.out.fullIn (v:=k) hkT
        rw [hfw] at hfwb
        have HFW:=zIo hfw
        have HFI:=zIo (fun v (hv : v < T)=>HAO.out.fullIn (v:=v) hv)
        clear hF hno hyes hiff hst HAe HDC HYT HYL HYO HID HAO hdk hfw
        go_wp2_with fail
        refine (HPM.out _ _ _ _ _ HAf.out.yd).mono ?_
        rintro r wc0 ⟨rfl,hbm⟩
        have HAg:=zIo (HAf.out.later hbm)
        clear hbm HAf
        go_wp2_with fail
        refine (HAg.out.yd.deedsT (by omega) (by show T ≤ 1000; omega)).mono ?_
        rintro r wc ⟨A9,cp9,tb,rfl,hb9,hD9⟩
        have HAh:=zIo (HAg.out.later hb9)
        obtain ⟨n4,hn4⟩ : ∃ n4,Y3.ds.length = n4:=⟨_,rfl⟩
        rw [hn4] at hdl hD9 ⊢
        obtain ⟨rfl,htb,hat⟩:=hD9.one0 hdq
        have hcap9:=hD9.2.1
        obtain ⟨_,_,_,_,_,_,_,d7,d8,d9,d10⟩:=hat
        have hidx : (n4 : Int) - 1 = (i : Int):=by omega
        have hql : i < n4:=by omega
        have hqi : (i : Int) < (n4 : Int):=by omega
        have hob:=HAh.out.obj List.mem_cons_self
        have c2:=hob.at' 2 _ rfl
        have hbxl:=hob.lt
        clear hb9 hD9 HAg hdl hdq hn4 hob hle
        rcases Bool.eq_false_or_eq_true d.ok with hok | hok
        · rw [hok] at d7
          obtain ⟨l9,jq,hal⟩:=HAh.out.box (zAA (Below.refl _ _) (.cells #[.bool true,.int .u64 d.v,.int .i64 d.lo,.int .i64 d.hi] 59)) (IsObj.made wc [.bool true,.int .u64 d.v,.int .i64 d.lo,.int .i64 d.hi] 59) (Nat.le_refl _)
          have HAi:=zIo hal
          have HOK:=zIo hok
          clear hok hal
          go_upto_if 105 with fail
          clear d7 d8 d9 d10 hidx hql hqi htb hcap9 c2 hbxl HAh
          generalize wc.alloc (.cells #[.bool true,.int .u64 d.v,.int .i64 d.lo,.int .i64 d.hi] 59) = wd at HAi ⊢
          generalize wc.heap.size = rb at HAi ⊢
          have hro':=HAi.out.obj (j:=jq) (b:=rb) List.mem_cons_self; have hmo':=HAi.out.obj (j:=jb) (b:=bx) (List.mem_cons_of_mem _ List.mem_cons_self); have hco':=HAi.out.obj (j:=jc) (b:=cb) (List.mem_cons_of_mem _ (List.mem_cons_of_mem _ List.mem_cons_self)); obtain ⟨r0',r1',m3',m4',q1'⟩ : _ ∧ _ ∧ _ ∧ _ ∧ _:=⟨hro'.at' 0 _ rfl,hro'.at' 1 _ rfl,hmo'.at' 3 _ rfl,hmo'.at' 4 _ rfl,hco'.at' 1 _ rfl⟩; have hrl':=hro'.lt; have hml':=hmo'.lt; have hcl':=hco'.lt; have hfl':=HAi.out.fullLt
          have hR0 : 0 < row.length:=HIFF.out.1 HOK.out
          have hRn : (0 : Int) < (row.length : Int):=by omega
          have hRd : decide ((0 : Int) < (row.length : Int)) = true:=decide_eq_true hRn
          obtain ⟨v0,rest,tt,hr0,hr1,hdv,hv0,hF,htT,hokn⟩:=HYES.out HOK.out
          have HOKn:=zIo hokn
          have HF:=zIo hF
          obtain ⟨g9,rfl,hg9,hcells,hsrc⟩:=HAi.out.vals hR0
          rw [hdv] at r1'
          obtain ⟨q9,hq9⟩ : ∃ q,row.length = q + 1:=⟨row.length - 1,by omega⟩
          have hq9i : (row.length : Int) - 1 = (q9 : Int):=by omega
          have hrc:=HAi.out.cap
          obtain ⟨ft,hft⟩ : ∃ ft,full.getD tt 0 = ft:=⟨_,rfl⟩
          have hftb:=HFI.out tt htT
          rw [hft] at hftb hokn
          have HFT:=zIo hft
          have HOKt : Hid (AlOk ⟨yb,ytb,p,c,T,s,so,1,T⟩ N s (m + 1 + sn) Yj Y3 (i + 1) rest F (full.set tt (ft - 1))):=zIo hokn
          have hftn : IntKind.i64.wrap (ft - 1) = ft - 1:=IntWalk.i64_in _ (by omega)
          have htz : (tt : Int) < (T : Int):=by omega
          clear hokn HOKn hft hF hdv
          rcases HCE.out with rfl | rfl
          · have HRW:=zIo (hr0 rfl)
            have hrl9 : row.length = rest.length + 1:=by rw [HRW.out]; rfl
            have c0:=hcells 0 hR0
            rw [show row.getD 0 0 = v0 by rw [HRW.out]; rfl] at c0
            have hlen9 : rest.length = q9:=by omega
            have HS9 : Hid (Src (wd.alloc (.cells #[] 41)) 1 (if cp = 1 then some ⟨g9,0,none⟩ else some ⟨g9,1,none⟩) q9 (rest.map (Value.int .u64))):=zIo (by
              split
              · have hz : rest = []:=List.eq_nil_of_length_eq_zero (by omega)
                have hq0 : q9 = 0:=by omega
                rw [hz,hq0]
                exact hsrc 0 0 (by omega) _ (zAA (Below.refl _ _) (.cells #[] 41))
              · have h9:=hsrc 1 q9 (by omega) _ (zAA (Below.refl _ _) (.cells #[] 41))
                rw [show (row.drop 1).take q9 = rest by rw [HRW.out]; show rest.take _ = _; rw [List.take_of_length_le (by omega)]] at h9
                exact h9)
            clear hr0 hr1 hcells hsrc
            go_wp2_with (first
              | (at_builtin; refine zAI rfl _ _ 38 rfl W.heap.size 41 _ 1 8 zAW (.slice (some ⟨_,0,none⟩) 0 0) 0 [] rfl (zAi _ W.heap.size 41 1 HAi.out.yd.h.size) _ _ _ _ rfl HS9.out (by unfold maxLen; omega) (by omega) (HAi.out.later (zAA (Below.refl _ _) _)).yd.h.size ?_; intro v8 w8 hG; obtain ⟨A8,cp8,l8,jr8,rfl,hal8⟩:=HAi.out.fresh (row':=rest) (zAA (Below.refl _ _) _) (zAi _ W.heap.size 41 1 HAi.out.yd.h.size) (Nat.le_refl _) hG (by omega) (by rw [List.nil_append]); have HAk:=zIo hal8; clear hG hal8; have hro8:=HAk.out.obj (j:=jq) (b:=rb) List.mem_cons_self; have hmo8:=HAk.out.obj (j:=jb) (b:=bx) (List.mem_cons_of_mem _ List.mem_cons_self); have hco8:=HAk.out.obj (j:=jc) (b:=cb) (List.mem_cons_of_mem _ (List.mem_cons_of_mem _ List.mem_cons_self)); obtain ⟨r08,r18,m38,m48,q18⟩ : _ ∧ _ ∧ _ ∧ _ ∧ _:=⟨hro8.at' 0 _ rfl,hro8.at' 1 _ rfl,hmo8.at' 3 _ rfl,hmo8.at' 4 _ rfl,hco8.at' 1 _ rfl⟩; have hrl8:=hro8.lt; have hml8:=hmo8.lt; have hcl8:=hco8.lt; have hfl8:=HAk.out.fullLt; have cf8 : _ = some (i64 ft):=(HAk.out.fullAt (j:=tt) (by omega)).trans (by rw [HFT.out]); have fz8:=HAk.out.fullFz tt; obtain ⟨l10,hal10⟩:=HAk.out.setFull tt (ft - 1); have HAm:=zIo hal10; clear hal10; have HAz:=zIo (HAm.out.less (X':=[(jc,cb,[i64 T,i64 s,i64 so,i64 1])]) (fun x hx=>List.mem_cons_of_mem _ (List.mem_cons_of_mem _ hx))))
              | (at_lookup; refine zA3 rfl _ _ _ rfl zCD rfl HAk.out.map v0 (tt : Int) rfl (WalkArith.wf_u64 (by omega)) HF.out ?_))
            go_roundw
            case rel=>exact ⟨i + 1,m + 1 + sn,nn,jr8,l10,Y3,J3,Yj,A8,cp8,rest,F,M,full.set tt (ft - 1),by omega,by omega,by omega,(by first | rfl | (rw [hlen9])),by go_num,HAz,HOKt⟩
            case measure=>first | omega | (simp [RowKit.intOf]; done) | (simp [RowKit.intOf]; omega)
          · have HRW:=zIo (hr1 (by decide))
            have hrl9 : row.length = rest.length + 1:=by rw [HRW.out,List.length_append]; rfl
            obtain ⟨x0,hx0⟩ : ∃ x,row.getD 0 0 = x:=⟨_,rfl⟩
            have c0:=hcells 0 hR0
            rw [hx0] at c0
            have c1:=hcells q9 (by omega)
            rw [show row.getD q9 0 = v0 by rw [HRW.out,List.getD_eq_getElem?_getD,List.getElem?_append_right (by omega),show q9 - rest.length = 0 by omega]; rfl] at c1
            have HS9:=zIo (hsrc 0 q9 (by omega) _ (zAA (Below.refl _ _) (.cells #[] 41)))
            rw [show (row.drop 0).take q9 = rest by rw [HRW.out,List.drop_zero,List.take_append_of_le_length (by omega),List.take_of_length_le (by omega)]] at HS9
            clear hx0
            clear hr0 hr1 hcells hsrc
            go_wp2_with (first
              | (at_builtin; refine zAI rfl _ _ 38 rfl W.heap.size 41 _ 1 8 zAW (.slice (some ⟨_,0,none⟩) 0 0) 0 [] rfl (zAi _ W.heap.size 41 1 HAi.out.yd.h.size) _ _ _ _ rfl HS9.out (by unfold maxLen; omega) (by omega) (HAi.out.later (zAA (Below.refl _ _) _)).yd.h.size ?_; intro v8 w8 hG; obtain ⟨A8,cp8,l8,jr8,rfl,hal8⟩:=HAi.out.fresh (row':=rest) (zAA (Below.refl _ _) _) (zAi _ W.heap.size 41 1 HAi.out.yd.h.size) (Nat.le_refl _) hG (by omega) (by rw [List.nil_append]); have HAk:=zIo hal8; clear hG hal8; have hro8:=HAk.out.obj (j:=jq) (b:=rb) List.mem_cons_self; have hmo8:=HAk.out.obj (j:=jb) (b:=bx) (List.mem_cons_of_mem _ List.mem_cons_self); have hco8:=HAk.out.obj (j:=jc) (b:=cb) (List.mem_cons_of_mem _ (List.mem_cons_of_mem _ List.mem_cons_self)); obtain ⟨r08,r18,m38,m48,q18⟩ : _ ∧ _ ∧ _ ∧ _ ∧ _:=⟨hro8.at' 0 _ rfl,hro8.at' 1 _ rfl,hmo8.at' 3 _ rfl,hmo8.at' 4 _ rfl,hco8.at' 1 _ rfl⟩; have hrl8:=hro8.lt; have hml8:=hmo8.lt; have hcl8:=hco8.lt; have hfl8:=HAk.out.fullLt; have cf8 : _ = some (i64 ft):=(HAk.out.fullAt (j:=tt) (by omega)).trans (by rw [HFT.out]); have fz8:=HAk.out.fullFz tt; obtain ⟨l10,hal10⟩:=HAk.out.setFull tt (ft - 1); have HAm:=zIo hal10; clear hal10; have HAz:=zIo (HAm.out.less (X':=[(jc,cb,[i64 T,i64 s,i64 so,i64 1])]) (fun x hx=>List.mem_cons_of_mem _ (List.mem_cons_of_mem _ hx))))
              | (at_lookup; refine zA3 rfl _ _ _ rfl zCD rfl HAk.out.map v0 (tt : Int) rfl (WalkArith.wf_u64 (by omega)) HF.out ?_))
            go_roundw
            case rel=>exact ⟨i + 1,m + 1 + sn,nn,jr8,l10,Y3,J3,Yj,A8,cp8,rest,F,M,full.set tt (ft - 1),by omega,by omega,by omega,(by first | rfl | (rw [hlen9])),by go_num,HAz,HOKt⟩
            case measure=>first | omega | (simp [RowKit.intOf]; done) | (simp [RowKit.intOf]; omega)
        · rw [hok] at d7
          obtain ⟨l9,jq,hal⟩:=HAh.out.box (zAA (Below.refl _ _) (.cells #[.bool false,.int .u64 d.v,.int .i64 d.lo,.int .i64 d.hi] 59)) (IsObj.made wc [.bool false,.int .u64 d.v,.int .i64 d.lo,.int .i64 d.hi] 59) (Nat.le_refl _)
          have HAi:=zIo hal
          have HOK:=zIo hok
          clear hok hal
          go_upto_if 105 with fail
          clear d7 d8 d9 d10 hidx hql hqi htb hcap9 c2 hbxl HAh
          generalize wc.alloc (.cells #[.bool false,.int .u64 d.v,.int .i64 d.lo,.int .i64 d.hi] 59) = wd at HAi ⊢
          generalize wc.heap.size = rb at HAi ⊢
          have hro':=HAi.out.obj (j:=jq) (b:=rb) List.mem_cons_self; have hmo':=HAi.out.obj (j:=jb) (b:=bx) (List.mem_cons_of_mem _ List.mem_cons_self); have hco':=HAi.out.obj (j:=jc) (b:=cb) (List.mem_cons_of_mem _ (List.mem_cons_of_mem _ List.mem_cons_self)); obtain ⟨r0',r1',m3',m4',q1'⟩ : _ ∧ _ ∧ _ ∧ _ ∧ _:=⟨hro'.at' 0 _ rfl,hro'.at' 1 _ rfl,hmo'.at' 3 _ rfl,hmo'.at' 4 _ rfl,hco'.at' 1 _ rfl⟩; have hrl':=hro'.lt; have hml':=hmo'.lt; have hcl':=hco'.lt; have hfl':=HAi.out.fullLt
          have hR0 : row.length = 0:=Nat.eq_zero_of_not_pos (fun h=>by have h2:=HIFF.out.2 h; rw [HOK.out] at h2; cases h2)
          have hRn : ¬ (0 : Int) < (row.length : Int):=by omega
          have hRd : decide ((0 : Int) < (row.length : Int)) = false:=decide_eq_false hRn
          have HOKn:=zIo (HNO.out HOK.out)
          have HAz:=zIo (HAi.out.less (X':=[(jc,cb,[i64 T,i64 s,i64 so,i64 1])]) (fun x hx=>List.mem_cons_of_mem _ (List.mem_cons_of_mem _ hx)))
          go_wp2_with fail
          go_roundw
          case rel=>exact ⟨i + 1,m + 1 + sn,nn,jr,l9,Y3,J3,Yj,A,cp,row,F,M,full,by omega,by omega,by omega,rfl,by go_num,HAz,HOKn⟩
          case measure=>first | omega | (simp [RowKit.intOf]; done) | (simp [RowKit.intOf]; omega)

    · obtain rfl : i = V.length:=by omega
      have hnl : ¬ (V.length : Int) < (V.length : Int):=by omega
      have HZ:=zIo (zAE HB4.out HAL.out.yd.h.below)
      clear HAL HAO
      go_wp2_with fail
      go_ret
      exact ⟨rfl,HZ.out⟩
end Go.Proofs.YtjlpidjilonhfaaGreat
