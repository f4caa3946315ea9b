/- Contracts and plain lemmas that these laws need. No condition. -/

import Derived.Test.YtjlpidjilonhfaaGreatQLI1
import Derived.Test.YtjlpidjilonhfaaGreatQLI2
import Derived.Test.YtjlpidjilonhfaaGreatQLI6
import Derived.Test.YtjlpidjilonhfaaGreatQLI8
namespace Go.Proofs.YtjlpidjilonhfaaGreat
set_option linter.unusedVariables false
set_option maxHeartbeats 8000000
set_option maxRecDepth 100000
section
open Go.RowKit
section
variable {T mode most c p : Int} {l : List CM} {v : LM}
theorem zD7 (h : v.base.k = 2) : topOne T mode most (c,p,l) v = (c,p,l ++ [v.base]):=by
 unfold topOne
 rw [if_neg (by omega),if_pos h]
theorem zET (h : v.base.k = 1) : topOne T mode most (c,p,l) v = (c,p,l ++ [{ v.base with who:=v.base.who % T }]):=by
 unfold topOne
 rw [if_neg (by omega),if_neg (by omega)]
theorem zEI (h : v.base.k = 0) (hc : c = most) : topOne T mode most (c,p,l) v = (c,p,l):=by
 unfold topOne
 rw [if_pos h,if_pos hc]
theorem zFY (h : v.base.k = 0) (hc : c ≠ most) (hk : v.base.ck = 0) : topOne T mode most (c,p,l) v = (c + 1,p + 1,l ++ [{ v.base with who:=v.base.who % T,ce:=topEnd mode v.base,v:=100 + (p + 1) }]):=by
 unfold topOne
 rw [if_pos h,if_neg hc,if_pos hk]
theorem zFd (h : v.base.k = 0) (hc : c ≠ most) (hk : v.base.ck ≠ 0) : topOne T mode most (c,p,l) v = (c + 1,p,l ++ [{ v.base with who:=v.base.who % T,ce:=topEnd mode v.base }]):=by
 unfold topOne
 rw [if_pos h,if_neg hc,if_neg hk]
end
structure TopSc (w : World) (r : Ending) (w' : World) (T s so d : Int) (A : Option Addr) (cp : Nat) (S : List CM) : Prop where
 ret : r = .returned (.tuple #[scV T s so d (.slice A S.length cp),.bool true])
 below : Below w.heap.size w w'
 row : w'.ownsRow w.heap.size 50 7 (.slice A S.length cp) S.length (flatM S)
theorem zCw (a0 a1 a2 mode most : Int) (a5 : Option Addr) (cap : Nat) (V : List LM) (w : World) (hV : RowL w a5 cap V) (hl : V.length ≤ 300) (hm : mode = 0 ∨ mode = 1 ∨ mode = 2) :
  Calls Tryz.prog 5 #[.int .i64 a0,.int .i64 a1,.int .i64 a2,.int .i64 mode,.int .i64 most,.slice a5 V.length cap] w fun r w' => ∃ A cp,TopSc w r w' (1 + a0 % 4) (1 + a1 % 4) (wrap64 ((IntKind.u64.wrap a2).tmod 5)) 1 A cp (topS (1 + a0 % 4) mode most V).2.2:=by
 have HV:=zIo hV
 clear hV
 have HCF:=zIo (fun w=>zH2 a0 a1 a2 1 w)
 rw [show (1 : Int) % 4 = 1 from rfl] at HCF
 obtain ⟨T,hT⟩ : ∃ T,1 + a0 % 4 = T:=⟨_,rfl⟩
 obtain ⟨s,hs⟩ : ∃ s,1 + a1 % 4 = s:=⟨_,rfl⟩
 obtain ⟨so,hso⟩ : ∃ so,wrap64 ((IntKind.u64.wrap a2).tmod 5) = so:=⟨_,rfl⟩
 have hT1 : 1 ≤ T:=by omega
 have hT4 : T ≤ 4:=by omega
 rw [hT,hs,hso] at HCF ⊢
 clear hT hs hso
 go_enter Tryz.func5,Tryz.ntmps5
 go_wp2_with fail
 refine (HCF.out _).mono ?_
 rintro r w2 ⟨rfl,hb2⟩
 clear HCF
 have HH0:=(Hold.nil (Below.refl w.heap.size w)).more (A:=tObj w.heap.size w.heap.size [i64 0,i64 0,i64 0,i64 0,.slice none 0 0]) (zAA (Below.refl _ _) (.cells #[.int .i64 0,.int .i64 0,.int .i64 0,.int .i64 0,.slice none 0 0] 29)) (zAP _ _ _) ⟨IsObj.made _ [i64 0,i64 0,i64 0,i64 0,.slice none 0 0] 29,Nat.le_refl _⟩ (fun q hq=>by cases hq; exact Nat.le_refl _)
 have HH1:=HH0.later hb2
 have HH2:=HH1.more (A:=tObj w.heap.size w2.heap.size [i64 T,i64 s,i64 so,i64 1]) (zAA (Below.refl _ _) (.cells #[.int .i64 T,.int .i64 s,.int .i64 so,.int .i64 1] 26)) (zAP _ _ _) ⟨IsObj.made _ [i64 T,i64 s,i64 so,i64 1] 26,HH1.size⟩ (fun q hq=>by cases hq; exact Nat.le_refl _)
 have HH3:=HH2.more (A:=tObj w.heap.size (w2.alloc (.cells #[.int .i64 T,.int .i64 s,.int .i64 so,.int .i64 1] 26)).heap.size [i64 T,i64 s,i64 so,i64 1,.slice none 0 0]) (zAA (Below.refl _ _) (.cells #[.int .i64 T,.int .i64 s,.int .i64 so,.int .i64 1,.slice none 0 0] 29)) (zAP _ _ _) ⟨IsObj.made _ [i64 T,i64 s,i64 so,i64 1,.slice none 0 0] 29,HH2.size⟩ (fun q hq=>by cases hq; exact Nat.le_refl _)
 have HH4:=HH3.more (A:=tRow w.heap.size 50 7 (.slice none 0 0) 0 []) (Below.refl _ _) (zA5 _ _ _ _ _ _) (World.ownsRow_nil _ _ _ _) (fun q hq=>by cases hq)
 simp only [World.size_alloc] at HH4
 have HH:=zIo HH4
 clear HH0 HH1 HH2 HH3 HH4 hb2
 go_wp2_with fail
 generalize hsb : w2.heap.size + 1 = sb at HH ⊢
 generalize hcb : w2.heap.size = cb at HH ⊢
 clear hsb hcb
 go_loopw [16,17,29] (fun cv pv iv wr => ∃ (i : Nat) (c p : Int) (l : List CM) (A1 : Option Addr) (cp1 : Nat),i ≤ V.length ∧ cv = .int .i64 c ∧ pv = .int .u64 p ∧ iv = .int .i64 i ∧ Hid (topS T mode most (V.take i) = (c,p,l)) ∧ Hid (Hold w wr [tObj w.heap.size w.heap.size [i64 0,i64 0,i64 0,i64 0,.slice none 0 0],tObj w.heap.size cb [i64 T,i64 s,i64 so,i64 1],tObj w.heap.size sb [i64 T,i64 s,i64 so,i64 1,.slice A1 l.length cp1],tRow w.heap.size 50 7 (.slice A1 l.length cp1) l.length (flatM l)])) (fun _ _ iv _=>V.length - (RowKit.intOf iv).toNat)
 case atStart=>exact ⟨0,0,0,[],none,0,Nat.zero_le _,rfl,rfl,rfl,zIo rfl,HH⟩
 case round =>
  clear HH
  obtain ⟨i,c,p,l,A1,cp1,hi,rfl,rfl,rfl,HST,HH⟩:=hrel
  have hok:=TopOk.of mode most (T:=T) (by omega) (by omega) (V.take i) (by rw [List.length_take]; omega)
  rw [HST.out] at hok
  have hc0 : 0 ≤ c:=hok.c0
  have hp0 : 0 ≤ p:=hok.p0
  have hti : (V.take i).length = i:=by rw [List.length_take]; omega
  have hc1 : c ≤ 300:=by have h : c ≤ ((V.take i).length : Int):=hok.c1; omega
  have hp1 : p ≤ 300:=by have h : p ≤ ((V.take i).length : Int):=hok.p1; omega
  have hl1 : l.length ≤ 300:=by have h : l.length ≤ (V.take i).length:=hok.len; omega
  clear hok hti
  rcases Nat.lt_or_ge i V.length with hil | hil
  ·have hil' : (i : Int) < (V.length : Int):=by omega
   obtain ⟨v,hv⟩ : ∃ v,V[i]? = some v:=⟨_,List.getElem?_eq_getElem hil⟩
   obtain ⟨b,off,rfl,hat⟩:=HV.out.at' i v hv
   have HTK:=zIo (show topS T mode most (V.take (i + 1)) = topOne T mode most (c,p,l) v by rw [List.take_add_one,hv,show (some v).toList = [v] from rfl,zFr,HST.out])
   have HOK:=zIo (TopOk.of mode most (T:=T) (by omega) (by omega) (V.take (i + 1)) (by rw [List.length_take]; omega))
   rw [HTK.out] at HOK
   have HMF:=zIo (show v.base.Fit from LM.base_fit (HV.out.fit v (List.mem_of_getElem? hv)))
   obtain ⟨e0,e1,e2,e3,e4,e5,e6,e7⟩:=hat.later (HH.out.below)
   have hcap:=HV.out.cap
   clear hat hv
   have HHa:=zIo (HH.out.later (zAA (Below.refl _ _) (({ v with odd:=0 } : LM).obj 43)))
   go_wp2_with fail
   refine (zB1 { v with odd:=0 } _).mono ?_
   rintro r w3 ⟨rfl,hb3⟩
   rw [LM.even rfl]
   have hbase : ({ v with odd:=0 } : LM).base = v.base:=rfl
   rw [hbase]
   have HHb:=zIo (HHa.out.later hb3)
   have HOP : Hid (∀ {x : Int × Int × List CM},topOne T mode most (c,p,l) v = x → TopOk T x (V.take (i + 1)).length):=zIo (fun hx=>hx ▸ HOK.out)
   have hb0:=fun h=>LM.base_beg (v:=v) h
   have hbr:=fun h=>LM.base_rest (v:=v) h
   have HONE : Hid (∀ b : CM,v.base = b → (∀ (mode most c p : Int) (l : List CM),b.k = 2 → topOne T mode most (c,p,l) v = (c,p,l ++ [b])) ∧ (∀ (mode most c p : Int) (l : List CM),b.k = 1 → topOne T mode most (c,p,l) v = (c,p,l ++ [{ b with who:=b.who % T }])) ∧ (∀ (mode most c p : Int) (l : List CM),b.k = 0 → c = most → topOne T mode most (c,p,l) v = (c,p,l)) ∧ (∀ (mode most c p : Int) (l : List CM),b.k = 0 → c ≠ most → b.ck = 0 → topOne T mode most (c,p,l) v = (c + 1,p + 1,l ++ [{ b with who:=b.who % T,ce:=topEnd mode b,v:=100 + (p + 1) }])) ∧ (∀ (mode most c p : Int) (l : List CM),b.k = 0 → c ≠ most → b.ck ≠ 0 → topOne T mode most (c,p,l) v = (c + 1,p,l ++ [{ b with who:=b.who % T,ce:=topEnd mode b }]))):=zIo (fun b hb=>by
    subst hb
    exact ⟨fun _ _ _ _ _ h=>zD7 h,fun _ _ _ _ _ h=>zET h,fun _ _ _ _ _ h h2=>zEI h h2,fun _ _ _ _ _ h h2 h3=>zFY h h2 h3,fun _ _ _ _ _ h h2 h3=>zFd h h2 h3⟩)
   clear hb3 HHa HH e0 e1 e2 e3 e4 e5 e6 e7 hbase HOK
   generalize hbv : v.base = bb at HMF hb0 hbr ⊢
   obtain ⟨o2,o1,o3,o4,o5⟩:=HONE.out bb hbv
   have HO1:=zIo o1
   have HO2:=zIo o2
   have HO3:=zIo o3
   have HO4:=zIo o4
   have HO5:=zIo o5
   clear hbv o1 o2 o3 o4 o5 HONE
   obtain ⟨k,who,ck,ce,x,stt,n⟩:=bb
   simp only at hb0 hbr HMF HO1 HO2 HO3 HO4 HO5 ⊢
   have hco:=(HHb.out.has 1 _ rfl : IsObj w3 cb [i64 T,i64 s,i64 so,i64 1] ∧ _).1
   have d0:=hco.at' 0 _ rfl
   have hcbl:=hco.lt
   clear hco
   by_cases hk0 : k = 0
   ·obtain ⟨w0,w63,n0,hce,hck⟩:=hb0 hk0
    clear hb0 hbr w63 n0 hce
    subst hk0
    have hrem : who.tmod T = who % T:=Int.tmod_eq_emod_of_nonneg w0
    obtain ⟨y,hy⟩ : ∃ y,who % T = y:=⟨_,rfl⟩
    have hy0 : 0 ≤ y:=by rw [← hy]; exact Int.emod_nonneg _ (by omega)
    have hy1 : y < T:=by rw [← hy]; exact Int.emod_lt_of_pos _ (by omega)
    rw [hy] at hrem HO1 HO4 HO5
    clear hy
    have hTn : ¬ T = 0:=by omega
    by_cases hcm : c = most
    ·have hcb : (c == most) = true:=by rw [hcm]; exact beq_self_eq_true _
     have HC:=zIo hcm
     clear hcm
     have HHz:=zIo (HHb.out.later (zAA (Below.refl _ _) ((⟨0,y,ck,ce,x,stt,n⟩ : CM).obj 50)))
     clear HHb
     go_wp2_with fail
     go_roundw
     case rel =>
      exact ⟨i + 1,c,p,l,A1,cp1,by omega,rfl,rfl,by go_num,zIo (HTK.out.trans (HO3.out mode most c p l rfl HC.out)),HHz⟩
     case measure=>first | omega | (simp [RowKit.intOf]; done) | (simp [RowKit.intOf]; omega)
    ·have hcb : (c == most) = false:=beq_false_of_ne hcm
     have HC:=zIo hcm
     clear hcm
     have hp2 : IntKind.u64.wrap (p + 1) = p + 1:=by rw [IntKind.wrap_u64]; omega
     have hp3 : IntKind.u64.wrap (100 + (p + 1)) = 100 + (p + 1):=by rw [IntKind.wrap_u64]; omega
     rcases hck with ⟨rfl,hst⟩ | ⟨rfl,hx0,hst0,hst1⟩
     ·clear hst
      rcases hm with rfl | rfl | rfl
      ·skip
       have hone : topOne T 0 most (c,p,l) v = (c + 1,p + 1,l ++ [⟨0,y,0,1,100 + (p + 1),stt,n⟩]):=HO4.out 0 most c p l rfl HC.out rfl
       have hmr : (⟨0,y,0,1,100 + (p + 1),stt,n⟩ : CM).Right:=((HOP.out hone).right _ (List.mem_append_right _ List.mem_cons_self)).1
       have HONE:=zIo hone
       clear hone
       have HHs:=zIo (HHb.out.more (A:=tObj w.heap.size w3.heap.size [i64 (0),i64 (y),i64 (0),i64 (1),.int .u64 (100 + (p + 1)),i64 (stt),i64 (n)]) (zAA (Below.refl _ _) ((⟨0,y,0,1,100 + (p + 1),stt,n⟩ : CM).obj 50)) (zAP _ _ _) ⟨IsObj.made w3 [i64 (0),i64 (y),i64 (0),i64 (1),.int .u64 (100 + (p + 1)),i64 (stt),i64 (n)] 50,HHb.out.size⟩ (fun q hq=>by cases hq; exact Nat.le_refl _))
       clear HHb
       have HMR:=zIo hmr
       clear hmr
       go_wp2_with fail
       refine (zAV ⟨0,y,0,1,100 + (p + 1),stt,n⟩ _).mono ?_
       rintro r w5 ⟨rfl,hb5⟩
       rw [decide_eq_true HMR.out]
       have HH5:=zIo (HHs.out.later hb5)
       clear HHs hb5 d0 hcbl
       have hsb:=(HH5.out.has 2 _ rfl : IsObj w5 sb [i64 T,i64 s,i64 so,i64 1,.slice A1 l.length cp1] ∧ _).1
       have hmo:=(HH5.out.has 4 _ rfl : IsObj w5 w3.heap.size [i64 (0),i64 (y),i64 (0),i64 (1),.int .u64 (100 + (p + 1)),i64 (stt),i64 (n)] ∧ _).1
       have s4:=hsb.at' 4 _ rfl
       have c0:=hmo.at' 0 _ rfl
       have c1:=hmo.at' 1 _ rfl
       have c2:=hmo.at' 2 _ rfl
       have c3:=hmo.at' 3 _ rfl
       have c4:=hmo.at' 4 _ rfl
       have c5:=hmo.at' 5 _ rfl
       have c6:=hmo.at' 6 _ rfl
       clear hsb hmo
       have HL5:=zIo (HH5.out.later (zAA (Below.refl _ _) ((⟨0,y,0,1,100 + (p + 1),stt,n⟩ : CM).obj 50)))
       go_wp2_with (at_builtin; go_loud (refine zAI rfl _ _ 27 rfl w.heap.size 50 _ 7 56 zBB (.slice A1 l.length cp1) l.length (flatM l) rfl (HL5.out.has 3 _ rfl) (some ⟨_,0,none⟩) 1 1 (⟨0,y,0,1,100 + (p + 1),stt,n⟩ : CM).list rfl (zBD _ _ ⟨0,y,0,1,100 + (p + 1),stt,n⟩ (by simp)) (by unfold maxLen; omega) (by omega) HL5.out.size ?_); intro v' w8 hG; go_loud (obtain ⟨A3,cp3,rfl⟩:=zAK hG.own; have HH8:=zIo (HL5.out.append 3 rfl rfl hG); have hs8:=(HH8.out.has 2 _ rfl : IsObj w8 sb [i64 T,i64 s,i64 so,i64 1,.slice A1 l.length cp1] ∧ _).1; have z4:=hs8.at' 4 _ rfl; have y4:=hs8.fz 4; clear hs8 hG s4 c0 c1 c2 c3 c4 c5 c6))
       have HH9:=zIo ((HH8.out.cdSet 2 rfl 4 (.slice A3 (l.length + 1) cp3)).less (m:=[_]) (l:=[_,_,_,_]))
       clear HH8 HH5 HL5 z4 y4
       go_roundw
       case rel =>
        refine ⟨i + 1,c + 1,p + 1,_,A3,cp3,by omega,rfl,rfl,by go_num,zIo (HTK.out.trans HONE.out),zIo ?_⟩
        have h:=HH9.out
        rw [List.length_append,List.length_singleton,zAR,show flatM [(⟨0,y,0,1,100 + (p + 1),stt,n⟩ : CM)] = (⟨0,y,0,1,100 + (p + 1),stt,n⟩ : CM).list by rw [flatM,flatM,List.append_nil]]
        exact h
       case measure=>first | omega | (simp [RowKit.intOf]; done) | (simp [RowKit.intOf]; omega)
      ·skip
       have hone : topOne T 1 most (c,p,l) v = (c + 1,p + 1,l ++ [⟨0,y,0,1,100 + (p + 1),stt,n⟩]):=HO4.out 1 most c p l rfl HC.out rfl
       have hmr : (⟨0,y,0,1,100 + (p + 1),stt,n⟩ : CM).Right:=((HOP.out hone).right _ (List.mem_append_right _ List.mem_cons_self)).1
       have HONE:=zIo hone
       clear hone
       have HHs:=zIo (HHb.out.more (A:=tObj w.heap.size w3.heap.size [i64 (0),i64 (y),i64 (0),i64 (1),.int .u64 (100 + (p + 1)),i64 (stt),i64 (n)]) (zAA (Below.refl _ _) ((⟨0,y,0,1,100 + (p + 1),stt,n⟩ : CM).obj 50)) (zAP _ _ _) ⟨IsObj.made w3 [i64 (0),i64 (y),i64 (0),i64 (1),.int .u64 (100 + (p + 1)),i64 (stt),i64 (n)] 50,HHb.out.size⟩ (fun q hq=>by cases hq; exact Nat.le_refl _))
       clear HHb
       have HMR:=zIo hmr
       clear hmr
       go_wp2_with fail
       refine (zAV ⟨0,y,0,1,100 + (p + 1),stt,n⟩ _).mono ?_
       rintro r w5 ⟨rfl,hb5⟩
       rw [decide_eq_true HMR.out]
       have HH5:=zIo (HHs.out.later hb5)
       clear HHs hb5 d0 hcbl
       have hsb:=(HH5.out.has 2 _ rfl : IsObj w5 sb [i64 T,i64 s,i64 so,i64 1,.slice A1 l.length cp1] ∧ _).1
       have hmo:=(HH5.out.has 4 _ rfl : IsObj w5 w3.heap.size [i64 (0),i64 (y),i64 (0),i64 (1),.int .u64 (100 + (p + 1)),i64 (stt),i64 (n)] ∧ _).1
       have s4:=hsb.at' 4 _ rfl
       have c0:=hmo.at' 0 _ rfl
       have c1:=hmo.at' 1 _ rfl
       have c2:=hmo.at' 2 _ rfl
       have c3:=hmo.at' 3 _ rfl
       have c4:=hmo.at' 4 _ rfl
       have c5:=hmo.at' 5 _ rfl
       have c6:=hmo.at' 6 _ rfl
       clear hsb hmo
       have HL5:=zIo (HH5.out.later (zAA (Below.refl _ _) ((⟨0,y,0,1,100 + (p + 1),stt,n⟩ : CM).obj 50)))
       go_wp2_with (at_builtin; go_loud (refine zAI rfl _ _ 27 rfl w.heap.size 50 _ 7 56 zBB (.slice A1 l.length cp1) l.length (flatM l) rfl (HL5.out.has 3 _ rfl) (some ⟨_,0,none⟩) 1 1 (⟨0,y,0,1,100 + (p + 1),stt,n⟩ : CM).list rfl (zBD _ _ ⟨0,y,0,1,100 + (p + 1),stt,n⟩ (by simp)) (by unfold maxLen; omega) (by omega) HL5.out.size ?_); intro v' w8 hG; go_loud (obtain ⟨A3,cp3,rfl⟩:=zAK hG.own; have HH8:=zIo (HL5.out.append 3 rfl rfl hG); have hs8:=(HH8.out.has 2 _ rfl : IsObj w8 sb [i64 T,i64 s,i64 so,i64 1,.slice A1 l.length cp1] ∧ _).1; have z4:=hs8.at' 4 _ rfl; have y4:=hs8.fz 4; clear hs8 hG s4 c0 c1 c2 c3 c4 c5 c6))
       have HH9:=zIo ((HH8.out.cdSet 2 rfl 4 (.slice A3 (l.length + 1) cp3)).less (m:=[_]) (l:=[_,_,_,_]))
       clear HH8 HH5 HL5 z4 y4
       go_roundw
       case rel =>
        refine ⟨i + 1,c + 1,p + 1,_,A3,cp3,by omega,rfl,rfl,by go_num,zIo (HTK.out.trans HONE.out),zIo ?_⟩
        have h:=HH9.out
        rw [List.length_append,List.length_singleton,zAR,show flatM [(⟨0,y,0,1,100 + (p + 1),stt,n⟩ : CM)] = (⟨0,y,0,1,100 + (p + 1),stt,n⟩ : CM).list by rw [flatM,flatM,List.append_nil]]
        exact h
       case measure=>first | omega | (simp [RowKit.intOf]; done) | (simp [RowKit.intOf]; omega)
      ·skip
       have hone : topOne T 2 most (c,p,l) v = (c + 1,p + 1,l ++ [⟨0,y,0,ce,100 + (p + 1),stt,n⟩]):=HO4.out 2 most c p l rfl HC.out rfl
       have hmr : (⟨0,y,0,ce,100 + (p + 1),stt,n⟩ : CM).Right:=((HOP.out hone).right _ (List.mem_append_right _ List.mem_cons_self)).1
       have HONE:=zIo hone
       clear hone
       have HHs:=zIo (HHb.out.more (A:=tObj w.heap.size w3.heap.size [i64 (0),i64 (y),i64 (0),i64 (ce),.int .u64 (100 + (p + 1)),i64 (stt),i64 (n)]) (zAA (Below.refl _ _) ((⟨0,y,0,ce,100 + (p + 1),stt,n⟩ : CM).obj 50)) (zAP _ _ _) ⟨IsObj.made w3 [i64 (0),i64 (y),i64 (0),i64 (ce),.int .u64 (100 + (p + 1)),i64 (stt),i64 (n)] 50,HHb.out.size⟩ (fun q hq=>by cases hq; exact Nat.le_refl _))
       clear HHb
       have HMR:=zIo hmr
       clear hmr
       go_wp2_with fail
       refine (zAV ⟨0,y,0,ce,100 + (p + 1),stt,n⟩ _).mono ?_
       rintro r w5 ⟨rfl,hb5⟩
       rw [decide_eq_true HMR.out]
       have HH5:=zIo (HHs.out.later hb5)
       clear HHs hb5 d0 hcbl
       have hsb:=(HH5.out.has 2 _ rfl : IsObj w5 sb [i64 T,i64 s,i64 so,i64 1,.slice A1 l.length cp1] ∧ _).1
       have hmo:=(HH5.out.has 4 _ rfl : IsObj w5 w3.heap.size [i64 (0),i64 (y),i64 (0),i64 (ce),.int .u64 (100 + (p + 1)),i64 (stt),i64 (n)] ∧ _).1
       have s4:=hsb.at' 4 _ rfl
       have c0:=hmo.at' 0 _ rfl
       have c1:=hmo.at' 1 _ rfl
       have c2:=hmo.at' 2 _ rfl
       have c3:=hmo.at' 3 _ rfl
       have c4:=hmo.at' 4 _ rfl
       have c5:=hmo.at' 5 _ rfl
       have c6:=hmo.at' 6 _ rfl
       clear hsb hmo
       have HL5:=zIo (HH5.out.later (zAA (Below.refl _ _) ((⟨0,y,0,ce,100 + (p + 1),stt,n⟩ : CM).obj 50)))
       go_wp2_with (at_builtin; go_loud (refine zAI rfl _ _ 27 rfl w.heap.size 50 _ 7 56 zBB (.slice A1 l.length cp1) l.length (flatM l) rfl (HL5.out.has 3 _ rfl) (some ⟨_,0,none⟩) 1 1 (⟨0,y,0,ce,100 + (p + 1),stt,n⟩ : CM).list rfl (zBD _ _ ⟨0,y,0,ce,100 + (p + 1),stt,n⟩ (by simp)) (by unfold maxLen; omega) (by omega) HL5.out.size ?_); intro v' w8 hG; go_loud (obtain ⟨A3,cp3,rfl⟩:=zAK hG.own; have HH8:=zIo (HL5.out.append 3 rfl rfl hG); have hs8:=(HH8.out.has 2 _ rfl : IsObj w8 sb [i64 T,i64 s,i64 so,i64 1,.slice A1 l.length cp1] ∧ _).1; have z4:=hs8.at' 4 _ rfl; have y4:=hs8.fz 4; clear hs8 hG s4 c0 c1 c2 c3 c4 c5 c6))
       have HH9:=zIo ((HH8.out.cdSet 2 rfl 4 (.slice A3 (l.length + 1) cp3)).less (m:=[_]) (l:=[_,_,_,_]))
       clear HH8 HH5 HL5 z4 y4
       go_roundw
       case rel =>
        refine ⟨i + 1,c + 1,p + 1,_,A3,cp3,by omega,rfl,rfl,by go_num,zIo (HTK.out.trans HONE.out),zIo ?_⟩
        have h:=HH9.out
        rw [List.length_append,List.length_singleton,zAR,show flatM [(⟨0,y,0,ce,100 + (p + 1),stt,n⟩ : CM)] = (⟨0,y,0,ce,100 + (p + 1),stt,n⟩ : CM).list by rw [flatM,flatM,List.append_nil]]
        exact h
       case measure=>first | omega | (simp [RowKit.intOf]; done) | (simp [RowKit.intOf]; omega)
     ·clear hx0 hst0 hst1
      rcases hm with rfl | rfl | rfl
      ·skip
       have hone : topOne T 0 most (c,p,l) v = (c + 1,p,l ++ [⟨0,y,1,1,x,stt,n⟩]):=HO5.out 0 most c p l rfl HC.out (by decide)
       have hmr : (⟨0,y,1,1,x,stt,n⟩ : CM).Right:=((HOP.out hone).right _ (List.mem_append_right _ List.mem_cons_self)).1
       have HONE:=zIo hone
       clear hone
       have HHs:=zIo (HHb.out.more (A:=tObj w.heap.size w3.heap.size [i64 (0),i64 (y),i64 (1),i64 (1),.int .u64 (x),i64 (stt),i64 (n)]) (zAA (Below.refl _ _) ((⟨0,y,1,1,x,stt,n⟩ : CM).obj 50)) (zAP _ _ _) ⟨IsObj.made w3 [i64 (0),i64 (y),i64 (1),i64 (1),.int .u64 (x),i64 (stt),i64 (n)] 50,HHb.out.size⟩ (fun q hq=>by cases hq; exact Nat.le_refl _))
       clear HHb
       have HMR:=zIo hmr
       clear hmr
       go_wp2_with fail
       refine (zAV ⟨0,y,1,1,x,stt,n⟩ _).mono ?_
       rintro r w5 ⟨rfl,hb5⟩
       rw [decide_eq_true HMR.out]
       have HH5:=zIo (HHs.out.later hb5)
       clear HHs hb5 d0 hcbl
       have hsb:=(HH5.out.has 2 _ rfl : IsObj w5 sb [i64 T,i64 s,i64 so,i64 1,.slice A1 l.length cp1] ∧ _).1
       have hmo:=(HH5.out.has 4 _ rfl : IsObj w5 w3.heap.size [i64 (0),i64 (y),i64 (1),i64 (1),.int .u64 (x),i64 (stt),i64 (n)] ∧ _).1
       have s4:=hsb.at' 4 _ rfl
       have c0:=hmo.at' 0 _ rfl
       have c1:=hmo.at' 1 _ rfl
       have c2:=hmo.at' 2 _ rfl
       have c3:=hmo.at' 3 _ rfl
       have c4:=hmo.at' 4 _ rfl
       have c5:=hmo.at' 5 _ rfl
       have c6:=hmo.at' 6 _ rfl
       clear hsb hmo
       have HL5:=zIo (HH5.out.later (zAA (Below.refl _ _) ((⟨0,y,1,1,x,stt,n⟩ : CM).obj 50)))
       go_wp2_with (at_builtin; go_loud (refine zAI rfl _ _ 27 rfl w.heap.size 50 _ 7 56 zBB (.slice A1 l.length cp1) l.length (flatM l) rfl (HL5.out.has 3 _ rfl) (some ⟨_,0,none⟩) 1 1 (⟨0,y,1,1,x,stt,n⟩ : CM).list rfl (zBD _ _ ⟨0,y,1,1,x,stt,n⟩ (by simp)) (by unfold maxLen; omega) (by omega) HL5.out.size ?_); intro v' w8 hG; go_loud (obtain ⟨A3,cp3,rfl⟩:=zAK hG.own; have HH8:=zIo (HL5.out.append 3 rfl rfl hG); have hs8:=(HH8.out.has 2 _ rfl : IsObj w8 sb [i64 T,i64 s,i64 so,i64 1,.slice A1 l.length cp1] ∧ _).1; have z4:=hs8.at' 4 _ rfl; have y4:=hs8.fz 4; clear hs8 hG s4 c0 c1 c2 c3 c4 c5 c6))
       have HH9:=zIo ((HH8.out.cdSet 2 rfl 4 (.slice A3 (l.length + 1) cp3)).less (m:=[_]) (l:=[_,_,_,_]))
       clear HH8 HH5 HL5 z4 y4
       go_roundw
       case rel =>
        refine ⟨i + 1,c + 1,p,_,A3,cp3,by omega,rfl,rfl,by go_num,zIo (HTK.out.trans HONE.out),zIo ?_⟩
        have h:=HH9.out
        rw [List.length_append,List.length_singleton,zAR,show flatM [(⟨0,y,1,1,x,stt,n⟩ : CM)] = (⟨0,y,1,1,x,stt,n⟩ : CM).list by rw [flatM,flatM,List.append_nil]]
        exact h
       case measure=>first | omega | (simp [RowKit.intOf]; done) | (simp [RowKit.intOf]; omega)
      ·skip
       have hone : topOne T 1 most (c,p,l) v = (c + 1,p,l ++ [⟨0,y,1,0,x,stt,n⟩]):=HO5.out 1 most c p l rfl HC.out (by decide)
       have hmr : (⟨0,y,1,0,x,stt,n⟩ : CM).Right:=((HOP.out hone).right _ (List.mem_append_right _ List.mem_cons_self)).1
       have HONE:=zIo hone
       clear hone
       have HHs:=zIo (HHb.out.more (A:=tObj w.heap.size w3.heap.size [i64 (0),i64 (y),i64 (1),i64 (0),.int .u64 (x),i64 (stt),i64 (n)]) (zAA (Below.refl _ _) ((⟨0,y,1,0,x,stt,n⟩ : CM).obj 50)) (zAP _ _ _) ⟨IsObj.made w3 [i64 (0),i64 (y),i64 (1),i64 (0),.int .u64 (x),i64 (stt),i64 (n)] 50,HHb.out.size⟩ (fun q hq=>by cases hq; exact Nat.le_refl _))
       clear HHb
       have HMR:=zIo hmr
       clear hmr
       go_wp2_with fail
       refine (zAV ⟨0,y,1,0,x,stt,n⟩ _).mono ?_
       rintro r w5 ⟨rfl,hb5⟩
       rw [decide_eq_true HMR.out]
       have HH5:=zIo (HHs.out.later hb5)
       clear HHs hb5 d0 hcbl
       have hsb:=(HH5.out.has 2 _ rfl : IsObj w5 sb [i64 T,i64 s,i64 so,i64 1,.slice A1 l.length cp1] ∧ _).1
       have hmo:=(HH5.out.has 4 _ rfl : IsObj w5 w3.heap.size [i64 (0),i64 (y),i64 (1),i64 (0),.int .u64 (x),i64 (stt),i64 (n)] ∧ _).1
       have s4:=hsb.at' 4 _ rfl
       have c0:=hmo.at' 0 _ rfl
       have c1:=hmo.at' 1 _ rfl
       have c2:=hmo.at' 2 _ rfl
       have c3:=hmo.at' 3 _ rfl
       have c4:=hmo.at' 4 _ rfl
       have c5:=hmo.at' 5 _ rfl
       have c6:=hmo.at' 6 _ rfl
       clear hsb hmo
       have HL5:=zIo (HH5.out.later (zAA (Below.refl _ _) ((⟨0,y,1,0,x,stt,n⟩ : CM).obj 50)))
       go_wp2_with (at_builtin; go_loud (refine zAI rfl _ _ 27 rfl w.heap.size 50 _ 7 56 zBB (.slice A1 l.length cp1) l.length (flatM l) rfl (HL5.out.has 3 _ rfl) (some ⟨_,0,none⟩) 1 1 (⟨0,y,1,0,x,stt,n⟩ : CM).list rfl (zBD _ _ ⟨0,y,1,0,x,stt,n⟩ (by simp)) (by unfold maxLen; omega) (by omega) HL5.out.size ?_); intro v' w8 hG; go_loud (obtain ⟨A3,cp3,rfl⟩:=zAK hG.own; have HH8:=zIo (HL5.out.append 3 rfl rfl hG); have hs8:=(HH8.out.has 2 _ rfl : IsObj w8 sb [i64 T,i64 s,i64 so,i64 1,.slice A1 l.length cp1] ∧ _).1; have z4:=hs8.at' 4 _ rfl; have y4:=hs8.fz 4; clear hs8 hG s4 c0 c1 c2 c3 c4 c5 c6))
       have HH9:=zIo ((HH8.out.cdSet 2 rfl 4 (.slice A3 (l.length + 1) cp3)).less (m:=[_]) (l:=[_,_,_,_]))
       clear HH8 HH5 HL5 z4 y4
       go_roundw
       case rel =>
        refine ⟨i + 1,c + 1,p,_,A3,cp3,by omega,rfl,rfl,by go_num,zIo (HTK.out.trans HONE.out),zIo ?_⟩
        have h:=HH9.out
        rw [List.length_append,List.length_singleton,zAR,show flatM [(⟨0,y,1,0,x,stt,n⟩ : CM)] = (⟨0,y,1,0,x,stt,n⟩ : CM).list by rw [flatM,flatM,List.append_nil]]
        exact h
       case measure=>first | omega | (simp [RowKit.intOf]; done) | (simp [RowKit.intOf]; omega)
      ·skip
       have hone : topOne T 2 most (c,p,l) v = (c + 1,p,l ++ [⟨0,y,1,ce,x,stt,n⟩]):=HO5.out 2 most c p l rfl HC.out (by decide)
       have hmr : (⟨0,y,1,ce,x,stt,n⟩ : CM).Right:=((HOP.out hone).right _ (List.mem_append_right _ List.mem_cons_self)).1
       have HONE:=zIo hone
       clear hone
       have HHs:=zIo (HHb.out.more (A:=tObj w.heap.size w3.heap.size [i64 (0),i64 (y),i64 (1),i64 (ce),.int .u64 (x),i64 (stt),i64 (n)]) (zAA (Below.refl _ _) ((⟨0,y,1,ce,x,stt,n⟩ : CM).obj 50)) (zAP _ _ _) ⟨IsObj.made w3 [i64 (0),i64 (y),i64 (1),i64 (ce),.int .u64 (x),i64 (stt),i64 (n)] 50,HHb.out.size⟩ (fun q hq=>by cases hq; exact Nat.le_refl _))
       clear HHb
       have HMR:=zIo hmr
       clear hmr
       go_wp2_with fail
       refine (zAV ⟨0,y,1,ce,x,stt,n⟩ _).mono ?_
       rintro r w5 ⟨rfl,hb5⟩
       rw [decide_eq_true HMR.out]
       have HH5:=zIo (HHs.out.later hb5)
       clear HHs hb5 d0 hcbl
       have hsb:=(HH5.out.has 2 _ rfl : IsObj w5 sb [i64 T,i64 s,i64 so,i64 1,.slice A1 l.length cp1] ∧ _).1
       have hmo:=(HH5.out.has 4 _ rfl : IsObj w5 w3.heap.size [i64 (0),i64 (y),i64 (1),i64 (ce),.int .u64 (x),i64 (stt),i64 (n)] ∧ _).1
       have s4:=hsb.at' 4 _ rfl
       have c0:=hmo.at' 0 _ rfl
       have c1:=hmo.at' 1 _ rfl
       have c2:=hmo.at' 2 _ rfl
       have c3:=hmo.at' 3 _ rfl
       have c4:=hmo.at' 4 _ rfl
       have c5:=hmo.at' 5 _ rfl
       have c6:=hmo.at' 6 _ rfl
       clear hsb hmo
       have HL5:=zIo (HH5.out.later (zAA (Below.refl _ _) ((⟨0,y,1,ce,x,stt,n⟩ : CM).obj 50)))
       go_wp2_with (at_builtin; go_loud (refine zAI rfl _ _ 27 rfl w.heap.size 50 _ 7 56 zBB (.slice A1 l.length cp1) l.length (flatM l) rfl (HL5.out.has 3 _ rfl) (some ⟨_,0,none⟩) 1 1 (⟨0,y,1,ce,x,stt,n⟩ : CM).list rfl (zBD _ _ ⟨0,y,1,ce,x,stt,n⟩ (by simp)) (by unfold maxLen; omega) (by omega) HL5.out.size ?_); intro v' w8 hG; go_loud (obtain ⟨A3,cp3,rfl⟩:=zAK hG.own; have HH8:=zIo (HL5.out.append 3 rfl rfl hG); have hs8:=(HH8.out.has 2 _ rfl : IsObj w8 sb [i64 T,i64 s,i64 so,i64 1,.slice A1 l.length cp1] ∧ _).1; have z4:=hs8.at' 4 _ rfl; have y4:=hs8.fz 4; clear hs8 hG s4 c0 c1 c2 c3 c4 c5 c6))
       have HH9:=zIo ((HH8.out.cdSet 2 rfl 4 (.slice A3 (l.length + 1) cp3)).less (m:=[_]) (l:=[_,_,_,_]))
       clear HH8 HH5 HL5 z4 y4
       go_roundw
       case rel =>
        refine ⟨i + 1,c + 1,p,_,A3,cp3,by omega,rfl,rfl,by go_num,zIo (HTK.out.trans HONE.out),zIo ?_⟩
        have h:=HH9.out
        rw [List.length_append,List.length_singleton,zAR,show flatM [(⟨0,y,1,ce,x,stt,n⟩ : CM)] = (⟨0,y,1,ce,x,stt,n⟩ : CM).list by rw [flatM,flatM,List.append_nil]]
        exact h
       case measure=>first | omega | (simp [RowKit.intOf]; done) | (simp [RowKit.intOf]; omega)
   ·rcases hbr hk0 with ⟨hk1,hq⟩ | ⟨hk2,hq⟩
    ·have w0 : 0 ≤ who:=by have:=congrArg CM.who hq; simp only at this; omega
     clear hb0 hbr hq hk0
     subst hk1
     have hrem : who.tmod T = who % T:=Int.tmod_eq_emod_of_nonneg w0
     obtain ⟨y,hy⟩ : ∃ y,who % T = y:=⟨_,rfl⟩
     have hy0 : 0 ≤ y:=by rw [← hy]; exact Int.emod_nonneg _ (by omega)
     have hy1 : y < T:=by rw [← hy]; exact Int.emod_lt_of_pos _ (by omega)
     rw [hy] at hrem HO1 HO4 HO5
     clear hy
     have hTn : ¬ T = 0:=by omega
     have hone : topOne T mode most (c,p,l) v = (c,p,l ++ [⟨1,y,ck,ce,x,stt,n⟩]):=HO1.out mode most c p l rfl
     have hmr : (⟨1,y,ck,ce,x,stt,n⟩ : CM).Right:=((HOP.out hone).right _ (List.mem_append_right _ List.mem_cons_self)).1
     have HONE:=zIo hone
     clear hone
     have HHs:=zIo (HHb.out.more (A:=tObj w.heap.size w3.heap.size [i64 (1),i64 (y),i64 (ck),i64 (ce),.int .u64 (x),i64 (stt),i64 (n)]) (zAA (Below.refl _ _) ((⟨1,y,ck,ce,x,stt,n⟩ : CM).obj 50)) (zAP _ _ _) ⟨IsObj.made w3 [i64 (1),i64 (y),i64 (ck),i64 (ce),.int .u64 (x),i64 (stt),i64 (n)] 50,HHb.out.size⟩ (fun q hq=>by cases hq; exact Nat.le_refl _))
     clear HHb
     have HMR:=zIo hmr
     clear hmr
     go_wp2_with fail
     refine (zAV ⟨1,y,ck,ce,x,stt,n⟩ _).mono ?_
     rintro r w5 ⟨rfl,hb5⟩
     rw [decide_eq_true HMR.out]
     have HH5:=zIo (HHs.out.later hb5)
     clear HHs hb5 d0 hcbl
     have hsb:=(HH5.out.has 2 _ rfl : IsObj w5 sb [i64 T,i64 s,i64 so,i64 1,.slice A1 l.length cp1] ∧ _).1
     have hmo:=(HH5.out.has 4 _ rfl : IsObj w5 w3.heap.size [i64 (1),i64 (y),i64 (ck),i64 (ce),.int .u64 (x),i64 (stt),i64 (n)] ∧ _).1
     have s4:=hsb.at' 4 _ rfl
     have c0:=hmo.at' 0 _ rfl
     have c1:=hmo.at' 1 _ rfl
     have c2:=hmo.at' 2 _ rfl
     have c3:=hmo.at' 3 _ rfl
     have c4:=hmo.at' 4 _ rfl
     have c5:=hmo.at' 5 _ rfl
     have c6:=hmo.at' 6 _ rfl
     clear hsb hmo
     have HL5:=zIo (HH5.out.later (zAA (Below.refl _ _) ((⟨1,y,ck,ce,x,stt,n⟩ : CM).obj 50)))
     go_wp2_with (at_builtin; go_loud (refine zAI rfl _ _ 27 rfl w.heap.size 50 _ 7 56 zBB (.slice A1 l.length cp1) l.length (flatM l) rfl (HL5.out.has 3 _ rfl) (some ⟨_,0,none⟩) 1 1 (⟨1,y,ck,ce,x,stt,n⟩ : CM).list rfl (zBD _ _ ⟨1,y,ck,ce,x,stt,n⟩ (by simp)) (by unfold maxLen; omega) (by omega) HL5.out.size ?_); intro v' w8 hG; go_loud (obtain ⟨A3,cp3,rfl⟩:=zAK hG.own; have HH8:=zIo (HL5.out.append 3 rfl rfl hG); have hs8:=(HH8.out.has 2 _ rfl : IsObj w8 sb [i64 T,i64 s,i64 so,i64 1,.slice A1 l.length cp1] ∧ _).1; have z4:=hs8.at' 4 _ rfl; have y4:=hs8.fz 4; clear hs8 hG s4 c0 c1 c2 c3 c4 c5 c6))
     have HH9:=zIo ((HH8.out.cdSet 2 rfl 4 (.slice A3 (l.length + 1) cp3)).less (m:=[_]) (l:=[_,_,_,_]))
     clear HH8 HH5 HL5 z4 y4
     go_roundw
     case rel =>
      refine ⟨i + 1,c,p,_,A3,cp3,by omega,rfl,rfl,by go_num,zIo (HTK.out.trans HONE.out),zIo ?_⟩
      have h:=HH9.out
      rw [List.length_append,List.length_singleton,zAR,show flatM [(⟨1,y,ck,ce,x,stt,n⟩ : CM)] = (⟨1,y,ck,ce,x,stt,n⟩ : CM).list by rw [flatM,flatM,List.append_nil]]
      exact h
     case measure=>first | omega | (simp [RowKit.intOf]; done) | (simp [RowKit.intOf]; omega)
    ·clear hb0 hbr hq hk0
     subst hk2
     have hone : topOne T mode most (c,p,l) v = (c,p,l ++ [⟨2,who,ck,ce,x,stt,n⟩]):=HO2.out mode most c p l rfl
     have hmr : (⟨2,who,ck,ce,x,stt,n⟩ : CM).Right:=((HOP.out hone).right _ (List.mem_append_right _ List.mem_cons_self)).1
     have HONE:=zIo hone
     clear hone
     have HHs:=zIo (HHb.out.more (A:=tObj w.heap.size w3.heap.size [i64 (2),i64 (who),i64 (ck),i64 (ce),.int .u64 (x),i64 (stt),i64 (n)]) (zAA (Below.refl _ _) ((⟨2,who,ck,ce,x,stt,n⟩ : CM).obj 50)) (zAP _ _ _) ⟨IsObj.made w3 [i64 (2),i64 (who),i64 (ck),i64 (ce),.int .u64 (x),i64 (stt),i64 (n)] 50,HHb.out.size⟩ (fun q hq=>by cases hq; exact Nat.le_refl _))
     clear HHb
     have HMR:=zIo hmr
     clear hmr
     go_wp2_with fail
     refine (zAV ⟨2,who,ck,ce,x,stt,n⟩ _).mono ?_
     rintro r w5 ⟨rfl,hb5⟩
     rw [decide_eq_true HMR.out]
     have HH5:=zIo (HHs.out.later hb5)
     clear HHs hb5 d0 hcbl
     have hsb:=(HH5.out.has 2 _ rfl : IsObj w5 sb [i64 T,i64 s,i64 so,i64 1,.slice A1 l.length cp1] ∧ _).1
     have hmo:=(HH5.out.has 4 _ rfl : IsObj w5 w3.heap.size [i64 (2),i64 (who),i64 (ck),i64 (ce),.int .u64 (x),i64 (stt),i64 (n)] ∧ _).1
     have s4:=hsb.at' 4 _ rfl
     have c0:=hmo.at' 0 _ rfl
     have c1:=hmo.at' 1 _ rfl
     have c2:=hmo.at' 2 _ rfl
     have c3:=hmo.at' 3 _ rfl
     have c4:=hmo.at' 4 _ rfl
     have c5:=hmo.at' 5 _ rfl
     have c6:=hmo.at' 6 _ rfl
     clear hsb hmo
     have HL5:=zIo (HH5.out.later (zAA (Below.refl _ _) ((⟨2,who,ck,ce,x,stt,n⟩ : CM).obj 50)))
     go_wp2_with (at_builtin; go_loud (refine zAI rfl _ _ 27 rfl w.heap.size 50 _ 7 56 zBB (.slice A1 l.length cp1) l.length (flatM l) rfl (HL5.out.has 3 _ rfl) (some ⟨_,0,none⟩) 1 1 (⟨2,who,ck,ce,x,stt,n⟩ : CM).list rfl (zBD _ _ ⟨2,who,ck,ce,x,stt,n⟩ (by simp)) (by unfold maxLen; omega) (by omega) HL5.out.size ?_); intro v' w8 hG; go_loud (obtain ⟨A3,cp3,rfl⟩:=zAK hG.own; have HH8:=zIo (HL5.out.append 3 rfl rfl hG); have hs8:=(HH8.out.has 2 _ rfl : IsObj w8 sb [i64 T,i64 s,i64 so,i64 1,.slice A1 l.length cp1] ∧ _).1; have z4:=hs8.at' 4 _ rfl; have y4:=hs8.fz 4; clear hs8 hG s4 c0 c1 c2 c3 c4 c5 c6))
     have HH9:=zIo ((HH8.out.cdSet 2 rfl 4 (.slice A3 (l.length + 1) cp3)).less (m:=[_]) (l:=[_,_,_,_]))
     clear HH8 HH5 HL5 z4 y4
     go_roundw
     case rel =>
      refine ⟨i + 1,c,p,_,A3,cp3,by omega,rfl,rfl,by go_num,zIo (HTK.out.trans HONE.out),zIo ?_⟩
      have h:=HH9.out
      rw [List.length_append,List.length_singleton,zAR,show flatM [(⟨2,who,ck,ce,x,stt,n⟩ : CM)] = (⟨2,who,ck,ce,x,stt,n⟩ : CM).list by rw [flatM,flatM,List.append_nil]]
      exact h
     case measure=>first | omega | (simp [RowKit.intOf]; done) | (simp [RowKit.intOf]; omega)
  ·obtain rfl : i = V.length:=by omega
   have hnn : ¬ (V.length : Int) < (V.length : Int):=by omega
   have hst:=HST.out
   rw [List.take_length] at hst
   have HST2:=zIo hst
   have hsb:=(HH.out.has 2 _ rfl : IsObj wr sb [i64 T,i64 s,i64 so,i64 1,.slice A1 l.length cp1] ∧ _).1
   have hro:=(HH.out.has 0 _ rfl : IsObj wr w.heap.size [i64 0,i64 0,i64 0,i64 0,.slice none 0 0] ∧ _).1
   have s0:=hsb.at' 0 _ rfl
   have s1:=hsb.at' 1 _ rfl
   have s2:=hsb.at' 2 _ rfl
   have s3:=hsb.at' 3 _ rfl
   have s4:=hsb.at' 4 _ rfl
   have r0:=hro.at' 0 _ rfl
   have r1:=hro.at' 1 _ rfl
   have r2:=hro.at' 2 _ rfl
   have r3:=hro.at' 3 _ rfl
   have r4:=hro.at' 4 _ rfl
   have z0:=hro.fz 0
   have z1:=hro.fz 1
   have z2:=hro.fz 2
   have z3:=hro.fz 3
   have z4:=hro.fz 4
   have HHz:=zIo (HH.out.cd5 rfl (i64 T) (i64 s) (i64 so) (i64 1) (.slice A1 l.length cp1))
   have hzz:=(HHz.out.has 0 _ rfl : IsObj _ w.heap.size [i64 T,i64 s,i64 so,i64 1,.slice A1 l.length cp1] ∧ _).1
   have y0:=hzz.at' 0 _ rfl
   have y1:=hzz.at' 1 _ rfl
   have y2:=hzz.at' 2 _ rfl
   have y3:=hzz.at' 3 _ rfl
   have y4:=hzz.at' 4 _ rfl
   clear hsb hro hst HST HH hi hil hzz
   go_wp2_with fail
   exact bodyPost_ret (v:=.tuple #[scV T s so 1 (.slice A1 l.length cp1),.bool true]) (by simp [results,Tryz.results5,go_sem,y0,y1,y2,y3,y4]) rfl (by
    rw [HST2.out]
    exact ⟨A1,cp1,rfl,HHz.out.below,HHz.out.has 3 _ rfl⟩)
end
section
open Go.RowKit
def wasRead (N st r j : Nat) : Prop := ∃ q,q < r ∧ (st + q) % N = j
theorem zEM {N st r j : Nat} (hs : st < N) (hr : r + 1 = N) (hj : j < N) : wasRead N st r j ∨ j = (st + r) % N:=by
 by_cases h1 : st ≤ j
 ·by_cases h2 : j - st = r
  ·right
   rw [show st + r = j by omega,Nat.mod_eq_of_lt hj]
  ·exact .inl ⟨j - st,by omega,by rw [show st + (j - st) = j by omega,Nat.mod_eq_of_lt hj]⟩
 ·have e : (st + (j + N - st)) % N = j:=by rw [show st + (j + N - st) = j + N by omega,Nat.add_mod_right,Nat.mod_eq_of_lt hj]
  by_cases h2 : j + N - st = r
  ·right
   rw [← h2,e]
  ·exact .inl ⟨j + N - st,by omega,e⟩
structure SnM (Y : Nat → Yd) (N : Nat) (k : Sn) (f b : Nat) : Prop where
 ex : ∃ st r P c,SnAt k N st r P ∧ k.ph = 0 ∧ f ≤ c ∧ c ≤ b ∧
  (∀ j,j < N → wasRead N st r j → ∃ a,c ≤ a ∧ a ≤ b ∧ k.X.getD j 0 = (Y a).C.getD j 0) ∧
  (∀ j,j < N → 1 ≤ P → (wasRead N st r j → k.turned = false) → ∃ a,f ≤ a ∧ a ≤ c ∧ k.X.getD j 0 = (Y a).C.getD j 0)
section
variable {Y : Nat → Yd} {N f b : Nat} {k : Sn}
theorem SnM.later (h : SnM Y N k f b) : SnM Y N k f (b + 1):=by
 obtain ⟨st,r,P,c,h1,h2,h3,h4,h5,h6⟩:=h.ex
 exact ⟨st,r,P,c,h1,h2,h3,by omega,fun j hj hr=>by obtain ⟨a,a1,a2,a3⟩:=h5 j hj hr; exact ⟨a,a1,by omega,a3⟩,h6⟩
theorem SnM.start (t s so d who : Int) (st : Nat) (hs : st < N) (hf : f ≤ b) : SnM Y N (sn0 t s so d who st N) f b :=
 ⟨st,0,0,b,zH7 t s so d who N st hs,rfl,hf,Nat.le_refl _,fun j hj ⟨q,hq,_⟩=>by omega,fun j hj hP=>by omega⟩
theorem SnM.step (h : SnM Y N k f b) (hst : ∀ {j : Nat},j < N → ∀ {a c e : Nat},a ≤ c → c ≤ e → e ≤ b → (Y a).C.getD j 0 = (Y e).C.getD j 0 → (Y c).C.getD j 0 = (Y a).C.getD j 0) :
  SnM Y N (k.step (Y b).C) f (b + 1) ∨ ((k.step (Y b).C).ph = 1 ∧ (k.step (Y b).C).X.length = N ∧ ∃ c,f ≤ c ∧ c ≤ b ∧ ∀ j,j < N → (k.step (Y b).C).X.getD j 0 = (Y c).C.getD j 0):=by
 obtain ⟨st,r,P,c,h1,h2,h3,h4,h5,h6⟩:=h.ex
 have hsl:=h1.slot
 have hlt:=h1.slot_lt
 have hX:=h1.X
 have hr1:=h1.r1
 have row : ∀ j,(k.X.set k.slot ((Y b).C.getD k.slot 0)).getD j 0 = if j = (st + r) % N then (Y b).C.getD j 0 else k.X.getD j 0:=fun j=>by
  rw [zCH _ _ _ _ (by omega),hsl]
  by_cases hq : (st + r) % N = j
  ·rw [if_pos hq,if_pos hq.symm,hq]
  ·rw [if_neg hq,if_neg (fun e=>hq e.symm)]
 have turned : (k.turned || decide ((Y b).C.getD k.slot 0 ≠ k.X.getD k.slot 0)) = false → k.turned = false ∧ (Y b).C.getD ((st + r) % N) 0 = k.X.getD ((st + r) % N) 0:=fun hq=>by
  rw [Bool.or_eq_false_iff] at hq
  refine ⟨hq.1, ?_⟩
  have h7:=of_decide_eq_false hq.2
  rw [hsl] at h7
  exact Classical.not_not.1 h7
 have cur : ∀ j,j < N → (wasRead N st r j ∨ j = (st + r) % N) → ∃ a,c ≤ a ∧ a ≤ b ∧ (k.X.set k.slot ((Y b).C.getD k.slot 0)).getD j 0 = (Y a).C.getD j 0:=fun j hj hw=>by
  rw [row j]
  by_cases hq : j = (st + r) % N
  ·rw [if_pos hq]
   exact ⟨b,h4,Nat.le_refl _,rfl⟩
  ·rw [if_neg hq]
   rcases hw with hw | hw
   ·exact h5 j hj hw
   ·exact absurd hw hq
 have old : ∀ j,j < N → 1 ≤ P → ((wasRead N st r j ∨ j = (st + r) % N) → (k.turned || decide ((Y b).C.getD k.slot 0 ≠ k.X.getD k.slot 0)) = false) → ∃ a,f ≤ a ∧ a ≤ c ∧ (k.X.set k.slot ((Y b).C.getD k.slot 0)).getD j 0 = (Y a).C.getD j 0:=fun j hj hP ht=>by
  rw [row j]
  by_cases hq : j = (st + r) % N
  ·rw [if_pos hq]
   obtain ⟨t1,t2⟩:=turned (ht (.inr hq))
   rw [hq,t2]
   exact h6 _ (by omega) hP (fun _=>t1)
  ·rw [if_neg hq]
   exact h6 j hj hP (fun hw=>(turned (ht (.inl hw))).1)
 have hread : k.read = (r : Int):=h1.read
 have hkN : (k.N : Int) = (N : Int):=by rw [h1.hN]
 by_cases hlast : r + 1 = N
 ·have e : k.step (Y b).C = (k.put ((Y b).C.getD k.slot 0)).fin:=by
   unfold Sn.step
   rw [if_pos h2,if_pos (by omega)]
  have hall : ∀ j,j < N → (wasRead N st r j ∨ j = (st + r) % N):=fun j hj=>zEM h1.s1 hlast hj
  rw [e]
  have hpass:=h1.passes
  by_cases hend : 1 < k.passes + 1 ∧ (k.turned || decide ((Y b).C.getD k.slot 0 ≠ k.X.getD k.slot 0)) = false
  ·right
   refine ⟨by show (if 1 < k.passes + 1 ∧ (k.turned || decide ((Y b).C.getD k.slot 0 ≠ k.X.getD k.slot 0)) = false then (1 : Int) else k.ph) = 1; rw [if_pos hend],by show (k.X.set _ _).length = N; rw [List.length_set]; exact hX,c,h3,h4,fun j hj=>?_⟩
   obtain ⟨a1,p1,p2,p3⟩:=cur j hj (hall j hj)
   obtain ⟨a2,q1,q2,q3⟩:=old j hj (by omega) (fun _=>hend.2)
   have hh:=hst hj q2 p1 p2 (q3.symm.trans p3)
   show (k.X.set k.slot ((Y b).C.getD k.slot 0)).getD j 0 = _
   rw [hh]
   exact q3
  ·left
   refine ⟨st,0,P + 1,b + 1,⟨h1.hN,h1.start,rfl,by show k.passes + 1 = ((P + 1 : Nat) : Int); omega,by show (k.X.set _ _).length = N; rw [List.length_set]; exact hX,h1.s1,by omega⟩, ?_,by omega,Nat.le_refl _,fun j hj ⟨q,hq,_⟩=>by omega,fun j hj _ _=>?_⟩
   ·show (if 1 < k.passes + 1 ∧ (k.turned || decide ((Y b).C.getD k.slot 0 ≠ k.X.getD k.slot 0)) = false then (1 : Int) else k.ph) = 0
    rw [if_neg hend]
    exact h2
   ·obtain ⟨a1,p1,p2,p3⟩:=cur j hj (hall j hj)
    exact ⟨a1,by omega,by omega,p3⟩
 ·have e : k.step (Y b).C = k.put ((Y b).C.getD k.slot 0):=by
   unfold Sn.step
   rw [if_pos h2,if_neg (by omega)]
  left
  rw [e]
  have hwr : ∀ j,wasRead N st (r + 1) j → wasRead N st r j ∨ j = (st + r) % N:=fun j ⟨q,hq,he⟩=>by
   by_cases hqr : q = r
   ·exact .inr (by rw [← he,hqr])
   ·exact .inl ⟨q,by omega,he⟩
  have hrw : ∀ j,(wasRead N st r j ∨ j = (st + r) % N) → wasRead N st (r + 1) j:=fun j hw=>by
   rcases hw with ⟨q,hq,he⟩ | hw
   ·exact ⟨q,by omega,he⟩
   ·exact ⟨r,by omega,hw.symm⟩
  refine ⟨st,r + 1,P,c,⟨h1.hN,h1.start,by show k.read + 1 = ((r + 1 : Nat) : Int); omega,h1.passes,by show (k.X.set _ _).length = N; rw [List.length_set]; exact hX,h1.s1,by omega⟩,h2,h3,by omega,fun j hj hw=>?_,fun j hj hP ht=>?_⟩
  ·obtain ⟨a,a1,a2,a3⟩:=cur j hj (hwr j hw)
   exact ⟨a,a1,by omega,a3⟩
  ·exact old j hj hP (fun hw=>ht (hrw j hw))
end
end
section
open Go.RowKit
def Got (Y : Nat → Yd) (N w i : Nat) (e : Int) (f b : Nat) (v : Int) : Prop :=
 ∃ c u s j : Nat,f ≤ c ∧ c ≤ u ∧ u ≤ s ∧ s < b ∧ j < N ∧ IsEnd ((Y c).C.take N) e j ∧ (Y s).C.getD j 0 = (Y c).C.getD j 0 ∧ (Y (s + 1)).C.getD j 0 = tkW ((Y c).C.getD j 0) ∧
  v = (Y u).C.getD (N + j) 0 ∧ (∃ k,(Y s).ts[w]? = some (some (.ge k,i))) ∧ (Y (s + 1)).ts[w]? ≠ (Y s).ts[w]?
structure TaM (Y : Nat → Yd) (N w i : Nat) (e : Int) (f b : Nat) (a : Ta) : Prop where
 at' : ∃ c j : Nat,f ≤ c ∧ c < b ∧ j < N ∧ a.slot = j ∧ IsEnd ((Y c).C.take N) e j ∧ a.word = (Y c).C.getD j 0 ∧ (a.next = 3 → a.lost = false → ∃ u,c ≤ u ∧ u < b ∧ a.value = (Y u).C.getD (N + j) 0)
 got : a.next = 4 → a.lost = false → Got Y N w i e f b a.value
structure GetM (Y : Nat → Yd) (N w i : Nat) (d : Dd) (k : Ge) (b : Nat) : Prop where
 e : k.e = d.e
 ex : ∃ f,d.fr < (Y f).moves ∧ f ≤ b ∧ (k.ta = none → SnM Y N k.sn f b) ∧ ∀ a,k.ta = some a → TaM Y N w i k.e f b a
structure GetD (Y : Nat → Yd) (N i : Nat) (d : Dd) (b : Nat) : Prop where
 ok : d.ok = true → ∃ w f b' : Nat,d.who = w ∧ d.fr < (Y f).moves ∧ b' ≤ b ∧ (Y b').moves ≤ d.till ∧ Got Y N w i d.e f b' d.v
 no : d.ok = false → ∃ f c b' : Nat,d.fr < (Y f).moves ∧ f ≤ c ∧ c ≤ b' ∧ b' ≤ b ∧ (Y b').moves ≤ d.till ∧ IsEnd ((Y c).C.take N) d.e (-1)
structure GTr (Y : Nat → Yd) (N b : Nat) : Prop where
 run : ∀ (w : Nat) (k : Ge) (i : Nat) (d : Dd),(Y b).ts[w]? = some (some (.ge k,i)) → (Y b).ds[i]? = some d → GetM Y N w i d k b
 done : ∀ (i : Nat) (d : Dd),(Y b).ds[i]? = some d → d.kd = 1 → d.till ≠ -1 → GetD Y N i d b
section
variable {Y : Nat → Yd} {N w i f b : Nat} {e v : Int} {d : Dd} {k : Ge}
theorem Got.later (h : Got Y N w i e f b v) : Got Y N w i e f (b + 1) v:=by
 obtain ⟨c,u,s,j,h1,h2,h3,h4,h5⟩:=h
 exact ⟨c,u,s,j,h1,h2,h3,by omega,h5⟩
theorem TaM.later {a : Ta} (h : TaM Y N w i e f b a) : TaM Y N w i e f (b + 1) a:=by
 obtain ⟨c,j,h1,h2,h3,h4,h5,h6,h7⟩:=h.at'
 exact ⟨⟨c,j,h1,by omega,h3,h4,h5,h6,fun p q=>by obtain ⟨u,u1,u2,u3⟩:=h7 p q; exact ⟨u,u1,by omega,u3⟩⟩,fun p q=>(h.got p q).later⟩
theorem GetM.later (h : GetM Y N w i d k b) : GetM Y N w i d k (b + 1):=by
 obtain ⟨f,h1,h2,h3,h4⟩:=h.ex
 exact ⟨h.e,f,h1,by omega,fun p=>(h3 p).later,fun a p=>(h4 a p).later⟩
theorem GetD.later (h : GetD Y N i d b) : GetD Y N i d (b + 1) :=
 ⟨fun p=>by obtain ⟨w,f,b',h1,h2,h3,h4⟩:=h.ok p; exact ⟨w,f,b',h1,h2,by omega,h4⟩,
  fun p=>by obtain ⟨f,c,b',h1,h2,h3,h4,h5⟩:=h.no p; exact ⟨f,c,b',h1,h2,h3,by omega,h5⟩⟩
theorem zHF {X C : List Int} (hX : X.length = N) (hC : N ≤ C.length) (h : ∀ j,j < N → X.getD j 0 = C.getD j 0) : X = C.take N:=by
 apply List.ext_getElem
 ·rw [hX,List.length_take]
  omega
 ·intro j h1 h2
  have:=h j (by omega)
  rw [List.getD_eq_getElem?_getD,List.getD_eq_getElem?_getD,List.getElem?_eq_getElem h1,List.getElem?_eq_getElem (by omega)] at this
  rw [List.getElem_take]
  exact this
theorem IsEnd.place {ws : List Int} {z : Int} (h : IsEnd ws e z) : z = -1 ∨ ∃ j : Nat,z = j ∧ j < ws.length:=by
 rcases h with ⟨h,_⟩ | ⟨j,h,h1,_⟩
 ·exact .inl h
 ·exact .inr ⟨j,h,h1⟩
def GetTo (Y : Nat → Yd) (N w i : Nat) (d : Dd) (b : Nat) (k : Ge) : Prop :=
 (k.ph = 0 → GetM Y N w i d k (b + 1)) ∧ (k.ph = 1 → ∃ f,d.fr < (Y f).moves ∧ Got Y N w i d.e f b k.val) ∧ (k.ph ≠ 0 → k.ph ≠ 1 → ∃ f c,d.fr < (Y f).moves ∧ f ≤ c ∧ c ≤ b ∧ IsEnd ((Y c).C.take N) d.e (-1))
theorem GetM.step {B : YB} {z : Int} (h : GetM Y N w i d k b) (hF : GFacts B N (Y b).C w k) (ha : k.ask (Y b).C z) (hw : (Y b).ts[w]? = some (some (.ge k,i))) (hlen : ∀ c,c ≤ b → N ≤ (Y c).C.length)
  (hC : (Y (b + 1)).C = k.cells N (2 * N + w) (Y b).C) (ht : (Y (b + 1)).ts[w]? = if (k.step N (2 * N + w) (Y b).C z).ph = 0 then some (some (.ge (k.step N (2 * N + w) (Y b).C z),i)) else some none)
  (hst : ∀ {j : Nat},j < N → ∀ {a c e : Nat},a ≤ c → c ≤ e → e ≤ b → (Y a).C.getD j 0 = (Y e).C.getD j 0 → (Y c).C.getD j 0 = (Y a).C.getD j 0) :
  GetTo Y N w i d b (k.step N (2 * N + w) (Y b).C z):=by
 unfold GetTo
 obtain ⟨f,h1,h2,h3,h4⟩:=h.ex
 have he:=h.e
 have hp:=hF.ph
 have hnp : ¬ k.ph ≠ 0:=by omega
 cases hta : k.ta with
 | none =>
  have e1 : k.step N (2 * N + w) (Y b).C z = k.read (k.sn.step (Y b).C) z:=by unfold Ge.step; rw [if_neg hnp,hta]
  rcases (h3 hta).step hst with hs | ⟨hs1,hs2,c,c1,c2,c3⟩
  ·have hs0 : (k.sn.step (Y b).C).ph = 0:=by obtain ⟨_,_,_,_,_,q,_⟩:=hs.ex; exact q
   have e2 : k.read (k.sn.step (Y b).C) z = { k with sn:=k.sn.step (Y b).C }:=by unfold Ge.read; rw [if_pos (by omega)]
   rw [e1,e2]
   refine ⟨fun _=>⟨he,f,h1,by omega,fun _=>hs,fun a haa=>?_⟩,fun q=>?_,fun q=>absurd hp q⟩
   ·have haa' : k.ta = some a:=haa
    rw [hta] at haa'
    cases haa'
   ·have q' : k.ph = 1:=q
    omega
  ·have hz:=ha hp hta hs1
   rw [zHF hs2 (hlen c c2) c3] at hz
   by_cases hneg : z < 0
   ·have e2 : k.read (k.sn.step (Y b).C) z = { k with sn:=k.sn.step (Y b).C,ph:=2 }:=by unfold Ge.read; rw [if_neg (fun q=>q hs1),if_pos hneg]
    rw [e1,e2]
    refine ⟨fun q=>absurd q (by show ¬ (2 : Int) = 0; decide),fun q=>absurd q (by show ¬ (2 : Int) = 1; decide),fun _ _=>⟨f,c,h1,c1,c2, ?_⟩⟩
    rcases hz.place with q | ⟨j,q,_⟩
    ·rw [← q, ← he]
     exact hz
    ·omega
   ·have e2 : k.read (k.sn.step (Y b).C) z = { k with sn:=k.sn.step (Y b).C,ta:=some (ta0 k.t k.s k.so k.d k.who z ((k.sn.step (Y b).C).X.getD z.toNat 0)) }:=by unfold Ge.read; rw [if_neg (fun q=>q hs1),if_neg hneg]
    rw [e1,e2]
    refine ⟨fun _=>⟨he,f,h1,by omega,fun q=>(by cases q),fun a haa=>?_⟩,fun q=>?_,fun q=>absurd hp q⟩
    ·cases haa
     rcases hz.place with q | ⟨j,rfl,hj⟩
     ·omega
     ·have hjN : j < N:=by
       rw [List.length_take] at hj
       omega
      exact ⟨⟨c,j,c1,by omega,hjN,rfl,hz,c3 _ hjN,fun q=>absurd q (by show ¬ (0 : Int) = 3; decide)⟩,fun q=>absurd q (by show ¬ (0 : Int) = 4; decide)⟩
    ·have q' : k.ph = 1:=q
     omega
 | some a =>
  have e1 : k.step N (2 * N + w) (Y b).C z = k.grab N (a.go a.slot.toNat (N + a.slot.toNat) (Y b).C):=by unfold Ge.step; rw [if_neg hnp,hta]
  have ec : (Y (b + 1)).C = a.cells a.slot.toNat (2 * N + w) (Y b).C:=by rw [hC]; unfold Ge.cells; rw [if_neg hnp,hta]
  obtain ⟨_,a2,a3,a4,a5⟩:=hF.ta a hta
  have hM:=h4 a hta
  obtain ⟨c,j,m1,m2,m3,m4,m5,m6,m7⟩:=hM.at'
  have hj : a.slot.toNat = j:=by omega
  rw [hj] at e1 ec
  have hna : ¬ a.ph ≠ 0:=by omega
  have hlb:=hlen b (Nat.le_refl _)
  have go : ∀ a' : Ta,a'.ph = 0 → a.go j (N + j) (Y b).C = a' → (k.step N (2 * N + w) (Y b).C z = { k with ta:=some a' } → TaM Y N w i k.e f (b + 1) a') →
    ((k.step N (2 * N + w) (Y b).C z).ph = 0 → GetM Y N w i d (k.step N (2 * N + w) (Y b).C z) (b + 1)) ∧
    ((k.step N (2 * N + w) (Y b).C z).ph = 1 → ∃ f,d.fr < (Y f).moves ∧ Got Y N w i d.e f b (k.step N (2 * N + w) (Y b).C z).val) ∧
    ((k.step N (2 * N + w) (Y b).C z).ph ≠ 0 → (k.step N (2 * N + w) (Y b).C z).ph ≠ 1 → ∃ f c,d.fr < (Y f).moves ∧ f ≤ c ∧ c ≤ b ∧ IsEnd ((Y c).C.take N) d.e (-1)):=by
   intro a' p0 pg pm
   have e2 : k.step N (2 * N + w) (Y b).C z = { k with ta:=some a' }:=by
    rw [e1,pg]
    unfold Ge.grab
    rw [if_neg (by omega),if_neg (by omega)]
   have hm:=pm e2
   rw [e2]
   refine ⟨fun _=>⟨he,f,h1,by omega,fun q=>(by cases q),fun x hx=>?_⟩,fun q=>?_,fun q=>absurd hp q⟩
   ·cases hx
    exact hm
   ·have q' : k.ph = 1:=q
    omega
  rcases a5.st a2 with ⟨n1,l1⟩ | ⟨n1,l1⟩ | ⟨n1,l1⟩ | ⟨n1,l1⟩ | n1
  ·refine go { a with next:=1 } a2 (by unfold Ta.go; rw [if_neg hna,if_pos n1]) (fun _=>⟨⟨c,j,m1,by omega,m3,m4,m5,m6,fun q=>absurd q (by show ¬ (1 : Int) = 3; decide)⟩,fun q=>absurd q (by show ¬ (1 : Int) = 4; decide)⟩)
  ·by_cases hq : (Y b).C.getD j 0 = a.word
   ·exact go { a with next:=2 } a2 (by unfold Ta.go; rw [if_neg hna,if_neg (by omega),if_pos n1,if_pos hq]) (fun _=>⟨⟨c,j,m1,by omega,m3,m4,m5,m6,fun q=>absurd q (by show ¬ (2 : Int) = 3; decide)⟩,fun q=>absurd q (by show ¬ (2 : Int) = 4; decide)⟩)
   ·exact go { a with next:=4,lost:=true } a2 (by unfold Ta.go; rw [if_neg hna,if_neg (by omega),if_pos n1,if_neg hq]) (fun _=>⟨⟨c,j,m1,by omega,m3,m4,m5,m6,fun q=>absurd q (by show ¬ (4 : Int) = 3; decide)⟩,fun _ q=>by cases q⟩)
  ·exact go { a with value:=(Y b).C.getD (N + j) 0,next:=3 } a2 (by unfold Ta.go; rw [if_neg hna,if_neg (by omega),if_neg (by omega),if_pos n1]) (fun _=>⟨⟨c,j,m1,by omega,m3,m4,m5,m6,fun _ _=>⟨b,by omega,by omega,rfl⟩⟩,fun q=>absurd q (by show ¬ (3 : Int) = 4; decide)⟩)
  ·by_cases hq : (Y b).C.getD j 0 = a.word
   ·refine go { a with next:=4 } a2 (by unfold Ta.go; rw [if_neg hna,if_neg (by omega),if_neg (by omega),if_neg (by omega),if_pos n1,if_pos hq]) (fun hk=>⟨⟨c,j,m1,by omega,m3,m4,m5,m6,fun q=>absurd q (by show ¬ (4 : Int) = 3; decide)⟩,fun _ _=>?_⟩)
    obtain ⟨u,u1,u2,u3⟩:=m7 n1 l1
    refine ⟨c,u,b,j,m1,u1,by omega,by omega,m3,m5,by rw [hq,m6], ?_,u3,⟨k,hw⟩, ?_⟩
    ·rw [ec]
     unfold Ta.cells
     rw [if_neg hna,if_neg (by omega),if_neg (by omega),if_neg (by omega),if_pos n1,if_pos hq,zAL _ (by omega),m6]
    ·rw [ht,hw,hk]
     rw [if_pos (by exact hp)]
     intro hh
     have hh':=Wk.ge.inj (Prod.mk.inj (Option.some.inj (Option.some.inj hh))).1
     have h5 : k.ta = some { a with next:=4 }:=by rw [← hh']
     rw [hta] at h5
     have h6 : a = { a with next:=4 }:=Option.some.inj h5
     have h7 : a.next = 4:=by rw [h6]
     omega
   ·exact go { a with next:=4,lost:=true } a2 (by unfold Ta.go; rw [if_neg hna,if_neg (by omega),if_neg (by omega),if_neg (by omega),if_pos n1,if_neg hq]) (fun _=>⟨⟨c,j,m1,by omega,m3,m4,m5,m6,fun q=>absurd q (by show ¬ (4 : Int) = 3; decide)⟩,fun _ q=>by cases q⟩)
  ·cases hl : a.lost with
   | true =>
    have eg : a.go j (N + j) (Y b).C = { a with ph:=2 }:=by unfold Ta.go; rw [if_neg hna,if_neg (by omega),if_neg (by omega),if_neg (by omega),if_neg (by omega),if_pos hl]
    have e2 : k.step N (2 * N + w) (Y b).C z = { k with tries:=k.tries + 1,sn:=sn0 k.t k.s k.so k.d k.who (IntKind.u64.wrap k.start % N) N,ta:=none }:=by
     rw [e1,eg]
     unfold Ge.grab
     rw [if_neg (by show ¬ (2 : Int) = 1; decide),if_pos rfl]
    rw [e2]
    have n2:=hF.ok.lay.n1
    have n3:=hF.ok.lay.n2
    obtain ⟨_,_,_,s4,s5⟩:=zAy k.start N (by omega) (by omega)
    refine ⟨fun _=>⟨he,f,h1,by omega,fun _=>?_,fun x hx=>by cases hx⟩,fun q=>?_,fun q=>absurd hp q⟩
    ·show SnM Y N (sn0 k.t k.s k.so k.d k.who (IntKind.u64.wrap k.start % N) N) f (b + 1)
     rw [show IntKind.u64.wrap k.start % N = (((IntKind.u64.wrap k.start % N).toNat : Nat) : Int) by omega]
     exact SnM.start _ _ _ _ _ _ (by omega) (by omega)
    ·have q' : k.ph = 1:=q
     omega
   | false =>
    have eg : a.go j (N + j) (Y b).C = { a with next:=5,ph:=1 }:=by unfold Ta.go; rw [if_neg hna,if_neg (by omega),if_neg (by omega),if_neg (by omega),if_neg (by omega),if_neg (by rw [hl]; decide)]
    have e2 : k.step N (2 * N + w) (Y b).C z = { k with ta:=some { a with next:=5,ph:=1 },ph:=1 }:=by
     rw [e1,eg]
     unfold Ge.grab
     rw [if_pos rfl]
    rw [e2]
    refine ⟨fun q=>absurd q (by show ¬ (1 : Int) = 0; decide),fun _=>⟨f,h1, ?_⟩,fun _ q=>absurd rfl q⟩
    rw [← he]
    exact hM.got n1 hl
end
section
variable {B : YB} {N m b w : Nat} {Y : Nat → Yd}
theorem zAv {Y : Yd} {P : Pl} {w i j : Nat} {T : Wk} {z : Int} {d0 a : Dd} (h0 : Y.ds[i]? = some d0) (hj : (Y.step P w T i z).ds[j]? = some a) : (Y.ds[j]? = some a ∧ (j = i → (T.step P Y.C Y.now z).ph = 0)) ∨ (j = i ∧ (T.step P Y.C Y.now z).ph ≠ 0 ∧ a = d0.over Y.moves (T.step P Y.C Y.now z)):=by
 have hj' : (if (T.step P Y.C Y.now z).ph = 0 then Y.ds else Y.ds.modify i (fun d=>d.over Y.moves (T.step P Y.C Y.now z)))[j]? = some a:=hj
 split at hj'
 ·rename_i hp
  exact .inl ⟨hj',fun _=>hp⟩
 ·rename_i hp
  rcases ymod hj' with ⟨e1,d1,e2,e3⟩ | ⟨e1,e2⟩
  ·subst e1
   rw [h0] at e2
   cases e2
   exact .inr ⟨rfl,hp,e3⟩
  ·exact .inl ⟨e2,fun e=>absurd e.symm e1⟩
theorem GTr.start (h : YTr B N Y m) : GTr Y N 0:=by
 constructor
 ·intro w k i d hw hd
  rw [h.zero] at hd
  simp at hd
 ·intro i d hd
  rw [h.zero] at hd
  simp at hd
theorem GTr.next (h : YTr B N Y m) (hG : GTr Y N b) (hb : b < m) : GTr Y N (b + 1):=by
 have hA:=h.all b (by omega)
 have hhow:=h.how b hb
 have hT:=h.hT
 have hlen : ∀ c,c ≤ b → N ≤ (Y c).C.length:=fun c hc=>by
  have:=(h.all c (by omega)).len
  omega
 generalize hZ : Y (b + 1) = Z at hhow
 cases hhow with
 | rest =>
  constructor
  ·intro w k i d hw hd
   rw [hZ] at hw hd
   exact (hG.run w k i d hw hd).later
  ·intro i d hd
   rw [hZ] at hd
   exact fun p q=>(hG.done i d hd p q).later
 | pass n hn =>
  constructor
  ·intro w k i d hw hd
   rw [hZ] at hw hd
   exact (hG.run w k i d hw hd).later
  ·intro i d hd
   rw [hZ] at hd
   exact fun p q=>(hG.done i d hd p q).later
 | call w take kd e x s hw he hk =>
  constructor
  ·intro v k i d hv hd
   rw [hZ] at hv hd
   rcases yset hv with ⟨rfl,hq,_⟩ | ⟨_,hq⟩
   ·have hq1 : Wk.ge k = wkB B N w take e x s:=(Prod.mk.inj (Option.some.inj hq)).1
    have hq2 : i = (Y b).ds.length:=(Prod.mk.inj (Option.some.inj hq)).2
    have hk':=zGk hq1
    subst hk' hq2
    rcases ysnoc hd with ⟨_,rfl⟩ | ⟨e1,_⟩
    ·refine ⟨rfl,b + 1, ?_,Nat.le_refl _,fun _=>?_,fun a ha=>by cases ha⟩
     ·rw [hZ]
      show (((Y b).moves : Nat) : Int) < (((Y b).moves + 1 : Nat) : Int)
      omega
     ·have n2:=h.cf.lay.n1
      have n3:=h.cf.lay.n2
      have n4:=h.cf.lay.t1
      obtain ⟨_,_,_,s4,s5⟩:=zAy s N (by omega) (by omega)
      show SnM Y N (sn0 B.t B.s B.so B.d w (IntKind.u64.wrap s % N) N) (b + 1) (b + 1)
      rw [show IntKind.u64.wrap s % N = (((IntKind.u64.wrap s % N).toNat : Nat) : Int) by omega]
      exact SnM.start _ _ _ _ _ _ (by omega) (Nat.le_refl _)
    ·omega
   ·obtain ⟨_,_,_,_,d0,k5,_⟩:=hA.ok.task v _ i hq
    rcases ysnoc hd with ⟨e1,_⟩ | ⟨_,e2⟩
    ·have:=(List.getElem?_eq_some_iff.1 k5).1
     omega
    ·exact (hG.run v k i d hq e2).later
  ·intro i d hd p q
   rw [hZ] at hd
   rcases ysnoc hd with ⟨_,rfl⟩ | ⟨_,e2⟩
   ·exact absurd rfl q
   ·exact (hG.done i d e2 p q).later
 | step w T i z hw ha =>
  obtain ⟨k1,k2,k3,k4,d0,k5,k6,k7,k8,_⟩:=hA.ok.task w T i hw
  have hkd:=hA.cok.kind w T i d0 hw k5
  have hst : ∀ {j : Nat},j < N → ∀ {a c e : Nat},a ≤ c → c ≤ e → e ≤ b → (Y a).C.getD j 0 = (Y e).C.getD j 0 → (Y c).C.getD j 0 = (Y a).C.getD j 0:=by
   intro j hj a c e h1 h2 h3 h4
   exact h.stays hj h1 h2 (by omega) h4
  have hlt : w < (Y b).ts.length:=(List.getElem?_eq_some_iff.1 hw).1
  have own : ∀ k : Ge,T = .ge k → GetTo Y N w i d0 b (k.step N (2 * N + w) (Y b).C z):=fun k hk=>by
   subst hk
   exact GetM.step (k:=k) (w:=w) (i:=i) (z:=z) (hG.run w k i d0 hw k5) (hA.ok.getF hw) (show k.ask (Y b).C z from ha) hw hlen (by rw [hZ]; rfl) (by
    rw [hZ]
    show (if (k.step N (2 * N + w) (Y b).C z).ph = 0 then (Y b).ts.set w (some (Wk.ge (k.step N (2 * N + w) (Y b).C z),i)) else (Y b).ts.set w none)[w]? = _
    split
    ·rw [List.getElem?_set_self hlt]
    ·rw [List.getElem?_set_self hlt]) hst
  constructor
  ·intro v k i' d hv hd
   rw [hZ] at hv hd
   have hv' : (if (T.step (plOf B N w) (Y b).C (Y b).now z).ph = 0 then (Y b).ts.set w (some (T.step (plOf B N w) (Y b).C (Y b).now z,i)) else (Y b).ts.set w Option.none)[v]? = some (some (Wk.ge k,i')):=hv
   by_cases hvw : w = v
   ·subst hvw
    split at hv'
    ·rename_i hp
     rw [List.getElem?_set_self hlt] at hv'
     obtain ⟨e1,rfl⟩:=Prod.mk.inj (Option.some.inj (Option.some.inj hv'))
     cases T with
     | pu p=>cases e1
     | ge g =>
      obtain ⟨o1,_⟩:=own g rfl
      have e2 : g.step N (2 * N + w) (Y b).C z = k:=Wk.ge.inj e1
      rcases zAv k5 hd with ⟨hd',_⟩ | ⟨_,q,_⟩
      ·rw [k5] at hd'
       cases hd'
       rw [← e2]
       exact o1 hp
      ·exact absurd hp q
    ·rw [List.getElem?_set_self hlt] at hv'
     cases hv'
   ·have hq : (Y b).ts[v]? = some (some (Wk.ge k,i')):=by
     split at hv'
     ·rw [List.getElem?_set_ne hvw] at hv'
      exact hv'
     ·rw [List.getElem?_set_ne hvw] at hv'
      exact hv'
    rcases zAv k5 hd with ⟨hd',_⟩ | ⟨e1,_,_⟩
    ·exact (hG.run v k i' d hq hd').later
    ·obtain ⟨_,_,_,_,d2,q5,q6,_⟩:=hA.ok.task v _ i' hq
     rw [e1,k5] at q5
     cases q5
     rw [k6] at q6
     omega
  ·intro j d hd p q
   rw [hZ] at hd
   rcases zAv k5 hd with ⟨hd',_⟩ | ⟨rfl,hp,rfl⟩
   ·exact (hG.done j d hd' p q).later
   ·obtain ⟨s1,s2,s3,s4,s5,s6,s7⟩:=Dd.over_same d0 (Y b).moves (T.step (plOf B N w) (Y b).C (Y b).now z)
    cases T with
    | pu k =>
     rw [s2,hkd] at p
     exact absurd p (by show ¬ kdI false = 1; decide)
    | ge k =>
     obtain ⟨_,o2,o3⟩:=own k rfl
     have hp' : (k.step N (2 * N + w) (Y b).C z).ph ≠ 0:=hp
     by_cases h1 : (k.step N (2 * N + w) (Y b).C z).ph = 1
     ·have e4 : d0.over (Y b).moves ((Wk.ge k).step (plOf B N w) (Y b).C (Y b).now z) = { d0 with till:=(Y b).moves,ok:=true,v:=(k.step N (2 * N + w) (Y b).C z).val,lo:=0,hi:=0 }:=if_pos h1
      rw [e4]
      obtain ⟨f,f1,f2⟩:=o2 h1
      exact ⟨fun _=>⟨w,f,b,k6,f1,by omega,Int.le_refl _,f2⟩,fun hh=>by cases hh⟩
     ·have e4 : d0.over (Y b).moves ((Wk.ge k).step (plOf B N w) (Y b).C (Y b).now z) = { d0 with till:=(Y b).moves }:=if_neg h1
      rw [e4]
      obtain ⟨f,c,f1,f2,f3,f4⟩:=o3 hp' h1
      exact ⟨fun hh=>absurd ((show d0.ok = true from hh).symm.trans k8) (by decide),fun _=>⟨f,c,b,f1,f2,f3,by omega,Int.le_refl _,f4⟩⟩
theorem YTr.gets (h : YTr B N Y m) : ∀ b,b ≤ m → GTr Y N b
 | 0,_=>GTr.start h
 | b + 1,hb=>(YTr.gets h b (by omega)).next h (by omega)
end
end
section
open Go.RowKit
structure PutAt (Y : Nat → Yd) (B : YB) (N i : Nat) (d : Dd) (p j : Nat) : Prop where
 till : ((Y p).moves : Int) = d.till
 lt : j < N
 own0 : d.who * B.s ≤ j
 own1 : j < d.who * B.s + B.s
 free : (Y p).C.getD j 0 % 4 ≠ 1
 word : (Y (p + 1)).C.getD j 0 = 1 + 4 * d.e + 8 * ((Y p).C.getD j 0 / 8 % 8192 + 1) + 65536 * d.lo + 1099511627776 * d.hi
 gen : (Y p).C.getD j 0 / 8 % 8192 ≤ 8190
 e0 : 0 ≤ d.e
 e1 : d.e ≤ 1
 st : 0 ≤ d.lo ∧ d.lo ≤ d.hi ∧ d.hi < 16777215
 value : (Y (p + 1)).C.getD (N + j) 0 = d.x
 rest : ∀ q,q ≠ j → (Y (p + 1)).C.getD q 0 = (Y p).C.getD q 0
 run : ∃ (w : Nat) (k : Pu),d.who = w ∧ (Y p).ts[w]? = some (some (.pu k,i)) ∧ (Y (p + 1)).ts[w]? = some none
structure VTr (Y : Nat → Yd) (B : YB) (N b : Nat) : Prop where
 run : ∀ (w : Nat) (k : Pu) (i : Nat) (d : Dd),(Y b).ts[w]? = some (some (.pu k,i)) → (Y b).ds[i]? = some d → k.value = d.x ∧ k.e = d.e ∧ (k.next = 3 → (Y b).C.getD (N + k.cl.slot.toNat) 0 = d.x)
 done : ∀ (i : Nat) (d : Dd),(Y b).ds[i]? = some d → d.kd = 0 → d.ok = true → ∃ p j,p < b ∧ PutAt Y B N i d p j
 live : ∀ j,j < N → (Y b).C.getD j 0 % 4 = 1 → ∃ i d p,(Y b).ds[i]? = some d ∧ d.kd = 0 ∧ d.ok = true ∧ p < b ∧ PutAt Y B N i d p j ∧ (Y b).C.getD j 0 = (Y (p + 1)).C.getD j 0 ∧ (Y b).C.getD (N + j) 0 = d.x
section
theorem zGu {nb : Nat} {k : Tk} {C : List Int} {now : Int} {i : Nat} (h : i < nb) : (stp nb k C now).2.1.getD i 0 = C.getD i 0:=by
 have key : ∀ (q : Nat) (x : Int),(C.set (nb + q) x).getD i 0 = C.getD i 0:=fun q x=>zAF x (by omega)
 have key0 : ∀ (x : Int),(C.set nb x).getD i 0 = C.getD i 0:=key 0
 unfold stp
 repeat' split
 all_goals first | rfl | exact key _ _ | exact key0 _
theorem zEj {k : Pu} {N nb : Nat} {C : List Int} {now : Int} (hp : k.ph = 0) (hn : k.next = 0 ∨ k.next = 1 ∨ k.next = 2 ∨ k.next = 3) (hl : 2 * N ≤ C.length) (hs : k.cl.slot.toNat < N) {q : Nat} (hq : q < nb) :
  (k.cells N nb C now).getD q 0 = C.getD q 0 ∨ (k.next = 2 ∧ q = N + k.cl.slot.toNat ∧ (k.cells N nb C now).getD q 0 = k.value) ∨ (k.next = 3 ∧ q = k.cl.slot.toNat):=by
 have hnp : ¬ k.ph ≠ 0:=by omega
 unfold Pu.cells
 rw [if_neg hnp]
 rcases hn with h | h | h | h
 ·rw [if_pos h]
  exact .inl rfl
 ·rw [if_neg (by omega),if_pos h]
  exact .inl (zGu hq)
 ·rw [if_neg (by omega),if_neg (by omega),if_pos h]
  by_cases e : N + k.cl.slot.toNat = q
  ·subst e
   exact .inr (.inl ⟨h,rfl,zAL _ (by omega)⟩)
  ·exact .inl (zAF _ e)
 ·rw [if_neg (by omega),if_neg (by omega),if_neg (by omega)]
  by_cases e : k.cl.slot.toNat = q
  ·exact .inr (.inr ⟨h,e.symm⟩)
  ·exact .inl (zAF _ e)
theorem zC5 (k : Pu) (r : Int) : (k.after r).next = k.next ∨ (k.after r).next = k.next + 1:=by
 unfold Pu.after
 split
 ·exact .inr rfl
 ·split <;> exact .inl rfl
end
section
variable {B : YB} {N n m b w : Nat} {Y : Nat → Yd}
theorem zGW {Y : Yd} {k : Ge} {i : Nat} (hA : AOk B N Y) (ho : YOk (plOf B N) B.T n Y) (hl : (Y.C.length : Int) = 2 * N + 2 * B.t) (hw : Y.ts[w]? = some (some (.ge k,i))) {q : Nat} (hq : q < 2 * N) :
  (k.cells N (2 * N + w) Y.C).getD q 0 = Y.C.getD q 0 ∨ (q < N ∧ (k.cells N (2 * N + w) Y.C).getD q 0 = tkW (Y.C.getD q 0) ∧ (k.cells N (2 * N + w) Y.C).getD q 0 % 4 = 2):=by
 have hF:=ho.getF hw
 unfold Ge.cells
 split
 ·exact .inl rfl
 ·cases hta : k.ta with
  | none=>exact .inl rfl
  | some a =>
   obtain ⟨_,_,b3,b4,b5⟩:=hF.ta a hta
   show (a.cells a.slot.toNat (2 * N + w) Y.C).getD q 0 = _ ∨ (q < N ∧ (a.cells a.slot.toNat (2 * N + w) Y.C).getD q 0 = _ ∧ (a.cells a.slot.toNat (2 * N + w) Y.C).getD q 0 % 4 = 2)
   have hlen:=b5.len
   have ht1:=b5.lay.t1
   unfold Ta.cells
   split
   ·exact .inl rfl
   ·split
    ·exact .inl (zAF _ (by omega))
    ·split
     ·exact .inl rfl
     ·split
      ·exact .inl rfl
      ·split
       ·split
        ·rename_i hx
         by_cases e : a.slot.toNat = q
         ·subst e
          have x0:=b5.x0
          right
          rw [zAL _ (by omega),hx]
          exact ⟨by omega,rfl,(zAj x0).1⟩
         ·exact .inl (zAF _ e)
        ·exact .inl rfl
       ·exact .inl (zAF _ (by omega))
theorem VTr.start (h : YTr B N Y m) : VTr Y B N 0:=by
 have hz : ∀ j,(Y 0).C.getD j 0 = 0:=fun j=>by
  rw [h.zero]
  show (List.replicate (2 * N + 2 * B.T) (0 : Int)).getD j 0 = 0
  rw [List.getD_eq_getElem?_getD,List.getElem?_replicate]
  split <;> rfl
 refine ⟨fun w k i d hw hd=>?_,fun i d hd=>?_,fun j _ hj=>?_⟩
 ·rw [h.zero] at hd
  simp at hd
 ·rw [h.zero] at hd
  simp at hd
 ·rw [hz] at hj
  omega
theorem VTr.live_same (hV : VTr Y B N b) (hC : ∀ j,j < N → (Y (b + 1)).C.getD j 0 % 4 = 1 → (Y (b + 1)).C.getD j 0 = (Y b).C.getD j 0 ∧ (Y (b + 1)).C.getD (N + j) 0 = (Y b).C.getD (N + j) 0) (hd : ∀ (i : Nat) (d : Dd),(Y b).ds[i]? = some d → d.ok = true → (Y (b + 1)).ds[i]? = some d) :
  ∀ j,j < N → (Y (b + 1)).C.getD j 0 % 4 = 1 → ∃ i d p,(Y (b + 1)).ds[i]? = some d ∧ d.kd = 0 ∧ d.ok = true ∧ p < b + 1 ∧ PutAt Y B N i d p j ∧ (Y (b + 1)).C.getD j 0 = (Y (p + 1)).C.getD j 0 ∧ (Y (b + 1)).C.getD (N + j) 0 = d.x:=by
 intro j hj h1
 obtain ⟨c1,c2⟩:=hC j hj h1
 rw [c1] at h1
 obtain ⟨i,d,p,p1,p2,p3,p4,p5,p6,p7⟩:=hV.live j hj h1
 exact ⟨i,d,p,hd i d p1 p3,p2,p3,by omega,p5,c1.trans p6,c2.trans p7⟩
theorem VTr.next (h : YTr B N Y m) (hV : VTr Y B N b) (hb : b < m) : VTr Y B N (b + 1):=by
 have hA:=h.all b (by omega)
 have hhow:=h.how b hb
 have hT:=h.hT
 have hlen:=hA.len
 generalize hZ : Y (b + 1) = Z at hhow
 cases hhow with
 | rest =>
  refine ⟨fun w k i d hw hd=>?_,fun i d hd p q=>?_,hV.live_same (fun j _ _=>by rw [hZ]; exact ⟨rfl,rfl⟩) (fun i d hd _=>by rw [hZ]; exact hd)⟩
  ·rw [hZ] at hw hd ⊢
   exact hV.run w k i d hw hd
  ·rw [hZ] at hd
   obtain ⟨p',j,h1,h2⟩:=hV.done i d hd p q
   exact ⟨p',j,by omega,h2⟩
 | pass n hn =>
  refine ⟨fun w k i d hw hd=>?_,fun i d hd p q=>?_,hV.live_same (fun j _ _=>by rw [hZ]; exact ⟨rfl,rfl⟩) (fun i d hd _=>by rw [hZ]; exact hd)⟩
  ·rw [hZ] at hw hd ⊢
   exact hV.run w k i d hw hd
  ·rw [hZ] at hd
   obtain ⟨p',j,h1,h2⟩:=hV.done i d hd p q
   exact ⟨p',j,by omega,h2⟩
 | call w take kd e x s hw he hk =>
  have hZC : (Y (b + 1)).C = (Y b).C:=by rw [hZ]; rfl
  refine ⟨fun v k i d hv hd=>?_,fun i d hd p q=>?_,hV.live_same (fun j _ _=>by rw [hZC]; exact ⟨rfl,rfl⟩) (fun i d hd _=>by
   rw [hZ]
   show ((Y b).ds ++ [_])[i]? = some d
   rw [List.getElem?_append_left (List.getElem?_eq_some_iff.1 hd).1]
   exact hd)⟩
  ·rw [hZC]
   rw [hZ] at hv hd
   rcases yset hv with ⟨rfl,hq,_⟩ | ⟨_,hq⟩
   ·have hq1 : Wk.pu k = wkB B N w take e x s:=(Prod.mk.inj (Option.some.inj hq)).1
    have hq2 : i = (Y b).ds.length:=(Prod.mk.inj (Option.some.inj hq)).2
    have hk':=zC7 hq1
    subst hk' hq2
    rcases ysnoc hd with ⟨_,rfl⟩ | ⟨e1,_⟩
    ·exact ⟨rfl,rfl,fun q=>absurd q (by show ¬ (0 : Int) = 3; decide)⟩
    ·omega
   ·obtain ⟨_,_,_,_,d0,k5,_⟩:=hA.ok.task v _ i hq
    rcases ysnoc hd with ⟨e1,_⟩ | ⟨_,e2⟩
    ·have:=(List.getElem?_eq_some_iff.1 k5).1
     omega
    ·exact hV.run v k i d hq e2
  ·rw [hZ] at hd
   rcases ysnoc hd with ⟨_,rfl⟩ | ⟨_,e2⟩
   ·cases q
   ·obtain ⟨p',j,h1,h2⟩:=hV.done i d e2 p q
    exact ⟨p',j,by omega,h2⟩
 | step w T i z hw ha =>
  obtain ⟨k1,k2,k3,k4,d0,k5,k6,k7,k8,_⟩:=hA.ok.task w T i hw
  have hkd:=hA.cok.kind w T i d0 hw k5
  have hlt : w < (Y b).ts.length:=(List.getElem?_eq_some_iff.1 hw).1
  have hZC : (Y (b + 1)).C = T.cells (plOf B N w) (Y b).C (Y b).now:=by rw [hZ]; rfl
  have keep : ∀ (i' : Nat) (d : Dd),(Y b).ds[i']? = some d → d.ok = true → (Y (b + 1)).ds[i']? = some d:=fun i' d hd hok=>by
   rw [hZ]
   show (if (T.step (plOf B N w) (Y b).C (Y b).now z).ph = 0 then (Y b).ds else (Y b).ds.modify i (fun d=>d.over (Y b).moves (T.step (plOf B N w) (Y b).C (Y b).now z)))[i']? = some d
   split
   ·exact hd
   ·rw [zBd (fun e=>?_)]
    ·exact hd
    ·rw [← e,k5] at hd
     cases hd
     rw [k8] at hok
     cases hok
  have other : ∀ (v : Nat) (k : Pu) (i' : Nat),v ≠ w → (Y b).ts[v]? = some (some (.pu k,i')) → (Y (b + 1)).C.getD (N + k.cl.slot.toNat) 0 = (Y b).C.getD (N + k.cl.slot.toNat) 0:=fun v k i' hv hq=>by
   have hG:=hA.ok.putF h.cf hT hlen hq
   have g1:=hG.lo
   have g2:=hG.hi
   have g3:=hG.n1
   obtain ⟨n0,_⟩:=h.cf.own hT hG.wT
   rw [hZC]
   cases T with
   | ge g =>
    rcases zGW hA.aok hA.ok hlen hw (q:=N + k.cl.slot.toNat) (by omega) with hh | ⟨hh,_⟩
    ·exact hh
    ·omega
   | pu p =>
    have hF:=hA.ok.putF h.cf hT hlen hw
    have b1:=hF.lo
    have b2:=hF.hi
    have b3:=hF.n1
    obtain ⟨m0,_⟩:=h.cf.own hT hF.wT
    rcases zEj (nb:=2 * N + B.T) (C:=(Y b).C) (now:=(Y b).now) hF.ph (by rcases hF.ok.at' hF.ph with h | h | h | h <;> omega) (by omega) (by omega : p.cl.slot.toNat < N) (q:=N + k.cl.slot.toNat) (by omega) with hh | ⟨_,hh,_⟩ | ⟨_,hh⟩
    ·exact hh
    ·exfalso
     rcases (by omega : v < w ∨ w < v) with hvw | hvw
     ·have h5 : ((v : Int) + 1) * B.s ≤ (w : Int) * B.s:=Int.mul_le_mul_of_nonneg_right (by omega) (by have:=h.cf.lay.s1; omega)
      rw [Int.add_mul,Int.one_mul] at h5
      omega
     ·have h5 : ((w : Int) + 1) * B.s ≤ (v : Int) * B.s:=Int.mul_le_mul_of_nonneg_right (by omega) (by have:=h.cf.lay.s1; omega)
      rw [Int.add_mul,Int.one_mul] at h5
      omega
    ·omega
  have store : ∀ k : Pu,T = .pu k → k.next = 3 → ∃ d1 : Dd,d1 = d0.over (Y b).moves (T.step (plOf B N w) (Y b).C (Y b).now z) ∧ d1.kd = 0 ∧ d1.ok = true ∧ (Y (b + 1)).ds[i]? = some d1 ∧ (Y (b + 1)).C = (Y b).C.set k.cl.slot.toNat k.pack ∧ PutAt Y B N i d1 b k.cl.slot.toNat:=fun k hk hn=>by
   subst hk
   have hF:=hA.ok.putF h.cf hT hlen hw
   have hok:=hF.ok
   have b1:=hF.lo
   have b2:=hF.hi
   have b3:=hF.n1
   obtain ⟨m0,_⟩:=h.cf.own hT hF.wT
   have hnp : ¬ k.ph ≠ 0:=by have:=hF.ph; omega
   rcases hok.at' hF.ph with ⟨a1,_⟩ | ⟨a1,_⟩ | ⟨a1,_⟩ | ⟨a1,a2,a3⟩
   ·omega
   ·omega
   ·omega
   have e2 : k.cells N (2 * N + B.T) (Y b).C (Y b).now = (Y b).C.set k.cl.slot.toNat k.pack:=by unfold Pu.cells; rw [if_neg hnp,if_neg (by omega),if_neg (by omega),if_neg (by omega)]
   have e3 : k.step ((w : Int) * B.s) (2 * N + B.T) (2 * N) (Y b).C (Y b).now = { k with ph:=1 }:=by unfold Pu.step; rw [if_neg hnp,if_neg (by omega),if_neg (by omega),if_neg (by omega)]
   have e4 : d0.over (Y b).moves ((Wk.pu k).step (plOf B N w) (Y b).C (Y b).now z) = { d0 with till:=(Y b).moves,ok:=true,v:=0,lo:=k.tk.lo,hi:=k.tk.hi }:=by
    show d0.over (Y b).moves (.pu (k.step ((w : Int) * B.s) (2 * N + B.T) (2 * N) (Y b).C (Y b).now)) = _
    rw [e3]
    rfl
   have e5 : (Y (b + 1)).C = (Y b).C.set k.cl.slot.toNat k.pack:=by rw [hZC]; exact e2
   have hph : ¬ ((Wk.pu k).step (plOf B N w) (Y b).C (Y b).now z).ph = 0:=by
    show ¬ (k.step ((w : Int) * B.s) (2 * N + B.T) (2 * N) (Y b).C (Y b).now).ph = 0
    rw [e3]
    exact (by decide : ¬ (1 : Int) = 0)
   have hP:=(hA.aok.put w k i hw).word hF.ph (.inl a2)
   obtain ⟨r1,r2,r3⟩:=hV.run w k i d0 hw k5
   have hg:=hok.wg (.inl a2)
   refine ⟨_,rfl, ?_, ?_, ?_,e5, ?_⟩
   ·rw [e4]
    exact hkd
   ·rw [e4]
   ·rw [hZ]
    show (if ((Wk.pu k).step (plOf B N w) (Y b).C (Y b).now z).ph = 0 then (Y b).ds else (Y b).ds.modify i (fun d=>d.over (Y b).moves ((Wk.pu k).step (plOf B N w) (Y b).C (Y b).now z)))[i]? = _
    rw [if_neg hph,zAz k5]
   ·rw [e4]
    refine ⟨rfl,by omega,by show d0.who * B.s ≤ _; rw [k6]; omega,by show _ < d0.who * B.s + B.s; rw [k6]; omega,hP.1, ?_,by omega,by show 0 ≤ d0.e; rw [← r2]; exact hok.e0,by show d0.e ≤ 1; rw [← r2]; exact hok.e1,hok.st a3, ?_,fun q hq=>?_,w,k,k6,hw, ?_⟩
    ·rw [e5,zAL _ (by omega),hP.2]
     show k.pack = 1 + 4 * d0.e + 8 * (k.cl.wg + 1) + 65536 * k.tk.lo + 1099511627776 * k.tk.hi
     rw [← r2]
     rfl
    ·rw [e5,zAF _ (by omega)]
     exact r3 a1
    ·rw [e5,zAF _ (fun e=>hq e.symm)]
    ·rw [hZ]
     show (if ((Wk.pu k).step (plOf B N w) (Y b).C (Y b).now z).ph = 0 then (Y b).ts.set w (some ((Wk.pu k).step (plOf B N w) (Y b).C (Y b).now z,i)) else (Y b).ts.set w none)[w]? = _
     rw [if_neg hph,List.getElem?_set_self hlt]
  refine ⟨fun v k i' d hv hd=>?_,fun j d hd p q=>?_, ?_⟩
  ·rw [hZ] at hv hd
   rcases zAk hv with ⟨rfl,hq,h0⟩ | ⟨hvw,hq⟩
   ·have hv' : (if (T.step (plOf B N v) (Y b).C (Y b).now z).ph = 0 then (Y b).ts.set v (some (T.step (plOf B N v) (Y b).C (Y b).now z,i)) else (Y b).ts.set v Option.none)[v]? = some (some (Wk.pu k,i')):=hv
    rw [if_pos h0,List.getElem?_set_self hlt] at hv'
    obtain ⟨_,rfl⟩:=Prod.mk.inj (Option.some.inj (Option.some.inj hv'))
    cases T with
    | ge g=>cases hq
    | pu p =>
     have hk : p.step ((v : Int) * B.s) (2 * N + B.T) (2 * N) (Y b).C (Y b).now = k:=(Wk.pu.inj hq).symm
     have hd' : d = d0:=by
      rcases zAv k5 hd with ⟨hd',_⟩ | ⟨_,q,_⟩
      ·rw [k5] at hd'
       cases hd'
       rfl
      ·exact absurd h0 q
     subst hd'
     obtain ⟨r1,r2,r3⟩:=hV.run v p i d hw k5
     have hF:=hA.ok.putF h.cf hT hlen hw
     have b1:=hF.lo
     have b2:=hF.hi
     have b3:=hF.n1
     obtain ⟨m0,_⟩:=h.cf.own hT hF.wT
     have hnp : ¬ p.ph ≠ 0:=by have:=hF.ph; omega
     have hsame:=Pu.step_same p ((v : Int) * B.s) (2 * N + B.T) (2 * N) (Y b).C (Y b).now
     rw [hk] at hsame
     refine ⟨by rw [hsame.value]; exact r1,by rw [hsame.e]; exact r2,fun hn=>?_⟩
     rcases hF.ok.at' hF.ph with ⟨a1,_⟩ | ⟨a1,_⟩ | ⟨a1,_⟩ | ⟨a1,_⟩
     ·exfalso
      unfold Pu.step at hk
      rw [if_neg hnp,if_pos a1] at hk
      rw [← hk] at hn
      rcases zC5 { p with cl:=p.cl.step ((v : Int) * B.s) (2 * N) (Y b).C } (p.cl.step ((v : Int) * B.s) (2 * N) (Y b).C).ph with e | e
      ·rw [e] at hn
       have hn' : p.next = 3:=hn
       omega
      ·rw [e] at hn
       have hn' : p.next + 1 = 3:=hn
       omega
     ·exfalso
      unfold Pu.step at hk
      rw [if_neg hnp,if_neg (by omega),if_pos a1] at hk
      rw [← hk] at hn
      rcases zC5 { p with tk:=(stp (2 * N + B.T) p.tk (Y b).C (Y b).now).1 } (stp (2 * N + B.T) p.tk (Y b).C (Y b).now).1.ph with e | e
      ·rw [e] at hn
       have hn' : p.next = 3:=hn
       omega
      ·rw [e] at hn
       have hn' : p.next + 1 = 3:=hn
       omega
     ·unfold Pu.step at hk
      rw [if_neg hnp,if_neg (by omega),if_neg (by omega),if_pos a1] at hk
      have e2 : (Wk.pu p).cells (plOf B N v) (Y b).C (Y b).now = (Y b).C.set (N + p.cl.slot.toNat) p.value:=by show p.cells N (2 * N + B.T) (Y b).C (Y b).now = _; unfold Pu.cells; rw [if_neg hnp,if_neg (by omega),if_neg (by omega),if_pos a1]
      rw [hZC,e2, ← hk]
      show ((Y b).C.set (N + p.cl.slot.toNat) p.value).getD (N + p.cl.slot.toNat) 0 = d.x
      rw [zAL _ (by omega)]
      exact r1
     ·exfalso
      unfold Pu.step at hk
      rw [if_neg hnp,if_neg (by omega),if_neg (by omega),if_neg (by omega)] at hk
      have h0' : (p.step ((v : Int) * B.s) (2 * N + B.T) (2 * N) (Y b).C (Y b).now).ph = 0:=h0
      unfold Pu.step at h0'
      rw [if_neg hnp,if_neg (by omega),if_neg (by omega),if_neg (by omega)] at h0'
      exact absurd h0' (by show ¬ (1 : Int) = 0; decide)
   ·have hd' : (Y b).ds[i']? = some d:=by
     rcases zAv k5 hd with ⟨hd',_⟩ | ⟨e1,_,_⟩
     ·exact hd'
     ·obtain ⟨_,_,_,_,d2,q5,q6,_⟩:=hA.ok.task v _ i' hq
      rw [e1,k5] at q5
      cases q5
      rw [k6] at q6
      omega
    rw [other v k i' hvw hq]
    exact hV.run v k i' d hq hd'
  ·rw [hZ] at hd
   rcases zAv k5 hd with ⟨hd',_⟩ | ⟨rfl,hp,rfl⟩
   ·obtain ⟨p',j',h1,h2⟩:=hV.done j d hd' p q
    exact ⟨p',j',by omega,h2⟩
   ·cases T with
    | ge g =>
     rw [(Dd.over_same d0 (Y b).moves _).2.1,hkd] at p
     exact absurd p (by show ¬ kdI true = 0; decide)
    | pu k =>
     have hF:=hA.ok.putF h.cf hT hlen hw
     have hnp : ¬ k.ph ≠ 0:=by have:=hF.ph; omega
     have hp1 : (k.step ((w : Int) * B.s) (2 * N + B.T) (2 * N) (Y b).C (Y b).now).ph = 1:=by
      by_cases hq : (k.step ((w : Int) * B.s) (2 * N + B.T) (2 * N) (Y b).C (Y b).now).ph = 1
      ·exact hq
      ·have e4 : d0.over (Y b).moves ((Wk.pu k).step (plOf B N w) (Y b).C (Y b).now z) = { d0 with till:=(Y b).moves }:=if_neg hq
       rw [e4] at q
       exact absurd ((show d0.ok = true from q).symm.trans k8) (by decide)
     have hn3 : k.next = 3:=by
      rcases hF.ok.at' hF.ph with ⟨a1,_⟩ | ⟨a1,_⟩ | ⟨a1,_⟩ | ⟨a1,_⟩
      ·exfalso
       unfold Pu.step at hp1
       rw [if_neg hnp,if_pos a1] at hp1
       exact zA2 _ _ (by exact Classical.not_not.1 hnp) hp1
      ·exfalso
       unfold Pu.step at hp1
       rw [if_neg hnp,if_neg (by omega),if_pos a1] at hp1
       exact zA2 _ _ (by exact Classical.not_not.1 hnp) hp1
      ·exfalso
       unfold Pu.step at hp1
       rw [if_neg hnp,if_neg (by omega),if_neg (by omega),if_pos a1] at hp1
       have : k.ph = 1:=hp1
       omega
      ·exact a1
     obtain ⟨d1,rfl,_,_,_,_,h6⟩:=store k rfl hn3
     exact ⟨b,_,by omega,h6⟩
  ·by_cases hs : ∃ k : Pu,T = .pu k ∧ k.next = 3
   ·obtain ⟨k,hk,hn⟩:=hs
    obtain ⟨d1,h1,h2,h3,h4,h5,h6⟩:=store k hk hn
    intro j hj hlive
    by_cases e : j = k.cl.slot.toNat
    ·subst e
     exact ⟨i,d1,b,h4,h2,h3,by omega,h6,rfl,h6.value⟩
    ·have c1:=h6.rest j e
     have c2 : (Y (b + 1)).C.getD (N + j) 0 = (Y b).C.getD (N + j) 0:=h6.rest (N + j) (by have:=h6.lt; omega)
     rw [c1] at hlive
     obtain ⟨i2,d,p,p1,p2,p3,p4,p5,p6,p7⟩:=hV.live j hj hlive
     exact ⟨i2,d,p,keep i2 d p1 p3,p2,p3,by omega,p5,c1.trans p6,c2.trans p7⟩
   ·refine hV.live_same (fun j hj hlive=>?_) keep
    rw [hZC] at hlive ⊢
    cases T with
    | ge g =>
     rcases zGW hA.aok hA.ok hlen hw (q:=j) (by omega) with hh | ⟨_,_,hh⟩
     ·rcases zGW hA.aok hA.ok hlen hw (q:=N + j) (by omega) with hh2 | ⟨hh2,_⟩
      ·exact ⟨hh,hh2⟩
      ·omega
     ·have hlive' : (g.cells N (2 * N + w) (Y b).C).getD j 0 % 4 = 1:=hlive
      omega
    | pu p =>
     have hF:=hA.ok.putF h.cf hT hlen hw
     have b1:=hF.lo
     have b2:=hF.hi
     have b3:=hF.n1
     obtain ⟨m0,_⟩:=h.cf.own hT hF.wT
     have hn3 : ¬ p.next = 3:=fun e=>hs ⟨p,rfl,e⟩
     have hn:=hF.ok.at' hF.ph
     rcases zEj (nb:=2 * N + B.T) (C:=(Y b).C) (now:=(Y b).now) hF.ph (by rcases hn with h | h | h | h <;> omega) (by omega) (by omega : p.cl.slot.toNat < N) (q:=j) (by omega) with hh | ⟨_,hh,_⟩ | ⟨hh,_⟩
     ·rcases zEj (nb:=2 * N + B.T) (C:=(Y b).C) (now:=(Y b).now) hF.ph (by rcases hn with h | h | h | h <;> omega) (by omega) (by omega : p.cl.slot.toNat < N) (q:=N + j) (by omega) with hh2 | ⟨h2,hh2,_⟩ | ⟨hh2,_⟩
      ·exact ⟨hh,hh2⟩
      ·exfalso
       have hlive' : (p.cells N (2 * N + B.T) (Y b).C (Y b).now).getD j 0 % 4 = 1:=hlive
       rw [hh] at hlive'
       have hj2 : p.cl.slot.toNat = j:=by omega
       rcases hn with ⟨a1,_⟩ | ⟨a1,_⟩ | ⟨a1,a2,_⟩ | ⟨a1,_⟩
       ·omega
       ·omega
       ·have hP:=(hA.aok.put w p i hw).word hF.ph (.inl a2)
        rw [hj2] at hP
        exact hP.1 hlive'
       ·omega
      ·exact absurd hh2 hn3
     ·omega
     ·exact absurd hh hn3
theorem YTr.puts (h : YTr B N Y m) : ∀ b,b ≤ m → VTr Y B N b
 | 0,_=>VTr.start h
 | b + 1,hb=>(YTr.puts h b (by omega)).next h (by omega)
end
end
section
open Go.RowKit
section
variable {B : YB} {N n m b w : Nat} {Y : Nat → Yd}
theorem zFG {Y Y' : Yd} (h : YHow B N Y Y') {v w : Nat} (hv : Y'.ts[v]? ≠ Y.ts[v]?) (hw : Y'.ts[w]? ≠ Y.ts[w]?) : v = w:=by
 cases h with
 | rest=>exact absurd rfl hv
 | pass n hn=>exact absurd rfl hv
 | call w0 take kd e x s h1 h2 h3 =>
  have key : ∀ u,(Y.call w0 kd e x s (wkB B N w0 take e x s)).ts[u]? ≠ Y.ts[u]? → w0 = u:=fun u hu=>Classical.byContradiction fun hne=>hu (List.getElem?_set_ne hne)
  exact (key v hv).symm.trans (key w hw)
 | step w0 T i z h1 h2 =>
  have key : ∀ u,(Y.step (plOf B N w0) w0 T i z).ts[u]? ≠ Y.ts[u]? → w0 = u:=fun u hu=>Classical.byContradiction fun hne=>hu (by
   show (if (T.step (plOf B N w0) Y.C Y.now z).ph = 0 then Y.ts.set w0 (some (T.step (plOf B N w0) Y.C Y.now z,i)) else Y.ts.set w0 none)[u]? = _
   split <;> exact List.getElem?_set_ne hne)
  exact (key v hv).symm.trans (key w hw)
theorem YHow.over {Y Y' : Yd} (ho : YOk (plOf B N) B.T n Y) (h : YHow B N Y Y') {i : Nat} {d : Dd} (hd : Y.ds[i]? = some d) (hok : d.ok = true ∨ d.till ≠ -1) : Y'.ds[i]? = some d:=by
 cases h with
 | rest=>exact hd
 | pass n hn=>exact hd
 | call w0 take kd e x s h1 h2 h3 =>
  show (Y.ds ++ [_])[i]? = some d
  rw [List.getElem?_append_left (List.getElem?_eq_some_iff.1 hd).1]
  exact hd
 | step w0 T i0 z h1 h2 =>
  obtain ⟨_,_,_,_,d0,k5,_,k7,k8,_⟩:=ho.task w0 T i0 h1
  show (if (T.step (plOf B N w0) Y.C Y.now z).ph = 0 then Y.ds else Y.ds.modify i0 (fun d=>d.over Y.moves (T.step (plOf B N w0) Y.C Y.now z)))[i]? = some d
  split
  ·exact hd
  ·rw [zBd (fun e=>?_)]
   ·exact hd
   ·rw [← e,k5] at hd
    cases hd
    rcases hok with hok | hok
    ·rw [k8] at hok
     cases hok
    ·exact hok k7
theorem YTr.over (h : YTr B N Y m) {i : Nat} {d : Dd} {a : Nat} : ∀ {b : Nat},a ≤ b → b ≤ m → (Y a).ds[i]? = some d → (d.ok = true ∨ d.till ≠ -1) → (Y b).ds[i]? = some d:=by
 intro b hab hb hd hok
 induction b with
 | zero =>
  obtain rfl : a = 0:=by omega
  exact hd
 | succ b ih =>
  by_cases hq : a = b + 1
  ·rw [← hq]
   exact hd
  ·exact (h.how b (by omega)).over (h.all b (by omega)).ok (ih (by omega) (by omega)) hok
theorem YTr.moves (h : YTr B N Y m) {a : Nat} : ∀ {b : Nat},a ≤ b → b ≤ m → (Y a).moves ≤ (Y b).moves:=by
 intro b hab hb
 induction b with
 | zero =>
  obtain rfl : a = 0:=by omega
  exact Nat.le_refl _
 | succ b ih =>
  by_cases hq : a = b + 1
  ·rw [← hq]
   exact Nat.le_refl _
  ·refine Nat.le_trans (ih (by omega) (by omega)) ?_
   have hw:=h.how b (by omega)
   generalize Y (b + 1) = Z at hw
   cases hw with
   | rest=>exact Nat.le_refl _
   | pass n hn=>exact Nat.le_refl _
   | call w0 take kd e x s h1 h2 h3=>exact Nat.le_succ _
   | step w0 T i0 z h1 h2=>exact Nat.le_succ _
theorem PutAt.live {i p j : Nat} {d : Dd} (h : PutAt Y B N i d p j) : (Y (p + 1)).C.getD j 0 % 4 = 1:=by
 have h1:=h.word
 omega
theorem zGY (h : YTr B N Y m) {i i' p p' j : Nat} {d d' : Dd} (h1 : PutAt Y B N i d p j) (h2 : PutAt Y B N i' d' p' j) (hp : p < m) (hp' : p' < m) (he : (Y (p + 1)).C.getD j 0 = (Y (p' + 1)).C.getD j 0) : p = p' ∧ i = i':=by
 have e : p = p':=by
  rcases Nat.lt_trichotomy p p' with hlt | heq | hlt
  ·have:=h.stays h1.lt (a:=p + 1) (b:=p') (c:=p' + 1) (by omega) (by omega) (by omega) he
   have h3:=h1.live
   have h4:=h2.free
   omega
  ·exact heq
  ·have:=h.stays h1.lt (a:=p' + 1) (b:=p) (c:=p + 1) (by omega) (by omega) (by omega) he.symm
   have h3:=h2.live
   have h4:=h1.free
   omega
 refine ⟨e, ?_⟩
 subst e
 obtain ⟨w,k,r1,r2,_⟩:=h1.run
 obtain ⟨w',k',q1,q2,_⟩:=h2.run
 have s1:=h.cf.lay.s1
 have a1:=h1.own0
 have a2:=h1.own1
 have a3:=h2.own0
 have a4:=h2.own1
 rw [r1] at a1 a2
 rw [q1] at a3 a4
 have e1:=zEB s1 a1 a2
 have e2:=zEB s1 a3 a4
 obtain rfl : w = w':=by omega
 rw [r2] at q2
 exact (Prod.mk.inj (Option.some.inj (Option.some.inj q2))).2
theorem zCg {C : List Int} {N j : Nat} (hj : j < N) : (C.take N).getD j 0 = C.getD j 0:=by
 rw [List.getD_eq_getElem?_getD,List.getD_eq_getElem?_getD,List.getElem?_take,if_pos hj]
theorem IsEnd.is {C : List Int} {N j : Nat} {e : Int} (h : IsEnd (C.take N) e j) (hj : j < N) : C.getD j 0 % 4 = 1:=by
 rcases h with ⟨h,_⟩ | ⟨i,h1,_,h3,_⟩
 ·omega
 ·obtain rfl : i = j:=by omega
  rw [← zCg hj]
  exact h3
structure Had (Y : Nat → Yd) (B : YB) (N w g : Nat) (e : Int) (f b : Nat) (v : Int) (c s j i p : Nat) (d : Dd) : Prop where
 fc : f ≤ c
 cs : c ≤ s
 sb : s < b
 lt : j < N
 isEnd : IsEnd ((Y c).C.take N) e j
 was : (Y s).C.getD j 0 = (Y c).C.getD j 0
 new : (Y (s + 1)).C.getD j 0 = tkW ((Y c).C.getD j 0)
 run : ∃ k,(Y s).ts[w]? = some (some (.ge k,g))
 turn : (Y (s + 1)).ts[w]? ≠ (Y s).ts[w]?
 deed : (Y c).ds[i]? = some d
 kd : d.kd = 0
 ok : d.ok = true
 pc : p < c
 put : PutAt Y B N i d p j
 word : (Y c).C.getD j 0 = (Y (p + 1)).C.getD j 0
 val : v = d.x
theorem zIV (h : YTr B N Y m) {g f : Nat} {e v : Int} (hb : b ≤ m) (hg : Got Y N w g e f b v) : ∃ c s j i p d,Had Y B N w g e f b v c s j i p d:=by
 obtain ⟨c,u,s,j,h1,h2,h3,h4,h5,h6,h7,h8,h9,h10,h11⟩:=hg
 have hl:=h6.is h5
 obtain ⟨i,d,p,p1,p2,p3,p4,p5,p6,p7⟩:=(h.puts c (by omega)).live j h5 hl
 have hu:=h.stays h5 h2 h3 (by omega) h7.symm
 obtain ⟨i2,d2,q,q1,q2,q3,q4,q5,q6,q7⟩:=(h.puts u (by omega)).live j h5 (by rw [hu]; exact hl)
 obtain ⟨rfl,_⟩:=zGY h p5 q5 (by omega) (by omega) (by rw [← p6, ← q6,hu])
 refine ⟨c,s,j,i,p,d,h1,by omega,h4,h5,h6,h7,h8,h10,h11,p1,p2,p3,p4,p5,p6, ?_⟩
 rw [h9,q7, ← q5.value,p5.value]
end
end
section
open Go.RowKit
def Gone (Y : Nat → Yd) (b p j : Nat) (x : Int) : Prop :=
 ∃ (s g : Nat) (dg : Dd),p < s ∧ s < b ∧ (Y s).C.getD j 0 = (Y (p + 1)).C.getD j 0 ∧ (Y (s + 1)).C.getD j 0 = tkW ((Y (p + 1)).C.getD j 0) ∧ (Y s).moves < (Y b).moves ∧ (Y b).ds[g]? = some dg ∧ dg.kd = 1 ∧ dg.fr < (Y s).moves ∧ (∃ w : Nat,dg.who = w ∧ (∃ k,(Y s).ts[w]? = some (some (.ge k,g))) ∧ (Y (s + 1)).ts[w]? ≠ (Y s).ts[w]?) ∧
  ((∃ (w : Nat) (k : Ge) (a : Ta),(Y b).ts[w]? = some (some (.ge k,g)) ∧ k.ta = some a ∧ a.next = 4 ∧ a.lost = false ∧ a.value = x) ∨ (dg.ok = true ∧ (Y s).moves < dg.till ∧ dg.v = x))
section
variable {B : YB} {N n m b w : Nat} {Y : Nat → Yd}
theorem zGt {Y : Yd} {k : Ge} {i : Nat} (ho : YOk (plOf B N) B.T n Y) (hw : Y.ts[w]? = some (some (.ge k,i))) {q : Nat} (hq : q < N) (hne : (k.cells N (2 * N + w) Y.C).getD q 0 ≠ Y.C.getD q 0) :
  ∃ a,k.ta = some a ∧ a.next = 3 ∧ a.lost = false ∧ a.slot = q ∧ a.word = Y.C.getD q 0 ∧ k.cells N (2 * N + w) Y.C = Y.C.set q (tkW a.word) ∧ ∀ z,k.step N (2 * N + w) Y.C z = { k with ta:=some { a with next:=4 } }:=by
 have hF:=ho.getF hw
 have hnp : ¬ k.ph ≠ 0:=by have:=hF.ph; omega
 cases hta : k.ta with
 | none =>
  exfalso
  apply hne
  unfold Ge.cells
  rw [if_neg hnp,hta]
 | some a =>
  obtain ⟨_,a2,b3,b4,b5⟩:=hF.ta a hta
  have hna : ¬ a.ph ≠ 0:=by omega
  have hc : k.cells N (2 * N + w) Y.C = a.cells a.slot.toNat (2 * N + w) Y.C:=by unfold Ge.cells; rw [if_neg hnp,hta]
  rw [hc] at hne ⊢
  by_cases n0 : a.next = 0
  ·exfalso
   apply hne
   unfold Ta.cells
   rw [if_neg hna,if_pos n0]
   exact zAF _ (by omega)
  by_cases n1 : a.next = 1
  ·exfalso
   apply hne
   unfold Ta.cells
   rw [if_neg hna,if_neg n0,if_pos n1]
  by_cases n2 : a.next = 2
  ·exfalso
   apply hne
   unfold Ta.cells
   rw [if_neg hna,if_neg n0,if_neg n1,if_pos n2]
  by_cases n3 : a.next = 3
  ·by_cases hx : Y.C.getD a.slot.toNat 0 = a.word
   ·have e1 : a.cells a.slot.toNat (2 * N + w) Y.C = Y.C.set a.slot.toNat (tkW a.word):=by
     unfold Ta.cells
     rw [if_neg hna,if_neg n0,if_neg n1,if_neg n2,if_pos n3,if_pos hx]
    rw [e1] at hne ⊢
    have hs : a.slot.toNat = q:=Classical.byContradiction fun hh=>hne (zAF _ hh)
    refine ⟨a,rfl,n3, ?_,by omega,by rw [← hs,hx],by rw [hs],fun z=>?_⟩
    ·rcases b5.st a2 with ⟨h,_⟩ | ⟨h,_⟩ | ⟨h,_⟩ | ⟨_,h⟩ | h
     ·omega
     ·omega
     ·omega
     ·exact h
     ·omega
    ·have e2 : k.step N (2 * N + w) Y.C z = k.grab N (a.go a.slot.toNat (N + a.slot.toNat) Y.C):=by unfold Ge.step; rw [if_neg hnp,hta]
     have e3 : a.go a.slot.toNat (N + a.slot.toNat) Y.C = { a with next:=4 }:=by unfold Ta.go; rw [if_neg hna,if_neg n0,if_neg n1,if_neg n2,if_pos n3,if_pos hx]
     rw [e2,e3]
     unfold Ge.grab
     rw [if_neg (by show ¬ a.ph = 1; omega),if_neg (by show ¬ a.ph = 2; omega)]
   ·exfalso
    apply hne
    unfold Ta.cells
    rw [if_neg hna,if_neg n0,if_neg n1,if_neg n2,if_pos n3,if_neg hx]
  ·exfalso
   apply hne
   unfold Ta.cells
   rw [if_neg hna,if_neg n0,if_neg n1,if_neg n2,if_neg n3]
   exact zAF _ (by omega)
theorem zIU {k : Ge} {a : Ta} {C : List Int} {hz : Nat} {z : Int} (hp : k.ph = 0) (ha : k.ta = some a) (h0 : a.ph = 0) (hn : a.next = 4) (hl : a.lost = false) : (k.step N hz C z).ph = 1 ∧ (k.step N hz C z).val = a.value:=by
 have e2 : k.step N hz C z = k.grab N (a.go a.slot.toNat (N + a.slot.toNat) C):=by unfold Ge.step; rw [if_neg (by omega),ha]
 have e3 : a.go a.slot.toNat (N + a.slot.toNat) C = { a with next:=5,ph:=1 }:=by unfold Ta.go; rw [if_neg (by omega),if_neg (by omega),if_neg (by omega),if_neg (by omega),if_neg (by omega),if_neg (by rw [hl]; decide)]
 rw [e2,e3]
 unfold Ge.grab
 rw [if_pos rfl]
 exact ⟨rfl,rfl⟩
theorem Gone.next (h : YTr B N Y m) {p j : Nat} {x : Int} (hb : b < m) (hG : Gone Y b p j x) : Gone Y (b + 1) p j x:=by
 obtain ⟨s,g,dg,s1,s2,s3,s4,s5,s6,s7,s8,s9,s10⟩:=hG
 have hA:=h.all b (by omega)
 have hhow:=h.how b hb
 have hmv:=h.moves (show b ≤ b + 1 by omega) (by omega)
 rcases s10 with ⟨w,k,a,r1,r2,r3,r4,r5⟩ | ⟨r1,r2,r3⟩
 ·obtain ⟨_,_,_,kp,dg',k5,k6,k7,k8,_⟩:=hA.ok.task w _ g r1
  rw [s6] at k5
  cases k5
  have hF:=hA.ok.getF r1
  obtain ⟨_,a2,_⟩:=hF.ta a r2
  generalize hZ : Y (b + 1) = Z at hhow hmv
  cases hhow with
  | rest=>exact ⟨s,g,dg,s1,by omega,s3,s4,by rw [hZ]; omega,by rw [hZ]; exact s6,s7,s8,s9,.inl ⟨w,k,a,by rw [hZ]; exact r1,r2,r3,r4,r5⟩⟩
  | pass n hn=>exact ⟨s,g,dg,s1,by omega,s3,s4,by rw [hZ]; omega,by rw [hZ]; exact s6,s7,s8,s9,.inl ⟨w,k,a,by rw [hZ]; exact r1,r2,r3,r4,r5⟩⟩
  | call w0 take kd e x s' h1 h2 h3 =>
   refine ⟨s,g,dg,s1,by omega,s3,s4,by rw [hZ]; omega, ?_,s7,s8,s9,.inl ⟨w,k,a, ?_,r2,r3,r4,r5⟩⟩
   ·rw [hZ]
    show ((Y b).ds ++ [_])[g]? = some dg
    rw [List.getElem?_append_left (List.getElem?_eq_some_iff.1 s6).1]
    exact s6
   ·rw [hZ]
    show ((Y b).ts.set w0 _)[w]? = _
    rw [List.getElem?_set_ne (fun e=>by rw [e,r1] at h1; cases h1)]
    exact r1
  | step w0 T i z h1 h2 =>
   by_cases hw : w0 = w
   ·subst hw
    rw [r1] at h1
    cases h1
    obtain ⟨l1,l2⟩:=zIU (N:=N) (C:=(Y b).C) (hz:=2 * N + w0) (z:=z) hF.ph r2 a2 r3 r4
    have hph : ¬ ((Wk.ge k).step (plOf B N w0) (Y b).C (Y b).now z).ph = 0:=by
     show ¬ (k.step N (2 * N + w0) (Y b).C z).ph = 0
     omega
    have e4 : dg.over (Y b).moves ((Wk.ge k).step (plOf B N w0) (Y b).C (Y b).now z) = { dg with till:=(Y b).moves,ok:=true,v:=(k.step N (2 * N + w0) (Y b).C z).val,lo:=0,hi:=0 }:=if_pos l1
    refine ⟨s,g, { dg with till:=(Y b).moves,ok:=true,v:=(k.step N (2 * N + w0) (Y b).C z).val,lo:=0,hi:=0 },s1,by omega,s3,s4,by rw [hZ]; omega, ?_,s7,s8,s9,.inr ⟨rfl, ?_, ?_⟩⟩
    ·rw [hZ]
     show (if ((Wk.ge k).step (plOf B N w0) (Y b).C (Y b).now z).ph = 0 then (Y b).ds else (Y b).ds.modify g (fun d=>d.over (Y b).moves ((Wk.ge k).step (plOf B N w0) (Y b).C (Y b).now z)))[g]? = _
     rw [if_neg hph,zAz s6,e4]
    ·show ((Y s).moves : Int) < ((Y b).moves : Int)
     omega
    ·exact l2.trans r5
   ·refine ⟨s,g,dg,s1,by omega,s3,s4,by rw [hZ]; omega, ?_,s7,s8,s9,.inl ⟨w,k,a, ?_,r2,r3,r4,r5⟩⟩
    ·rw [hZ]
     show (if (T.step (plOf B N w0) (Y b).C (Y b).now z).ph = 0 then (Y b).ds else (Y b).ds.modify i (fun d=>d.over (Y b).moves (T.step (plOf B N w0) (Y b).C (Y b).now z)))[g]? = _
     split
     ·exact s6
     ·obtain ⟨_,_,_,_,d2,q5,q6,_⟩:=hA.ok.task w0 _ i h1
      rw [zBd (fun e=>?_)]
      ·exact s6
      ·rw [e,s6] at q5
       cases q5
       rw [k6] at q6
       omega
    ·rw [hZ]
     show (if (T.step (plOf B N w0) (Y b).C (Y b).now z).ph = 0 then (Y b).ts.set w0 (some (T.step (plOf B N w0) (Y b).C (Y b).now z,i)) else (Y b).ts.set w0 none)[w]? = _
     split
     ·rw [List.getElem?_set_ne hw]
      exact r1
     ·rw [List.getElem?_set_ne hw]
      exact r1
 ·exact ⟨s,g,dg,s1,by omega,s3,s4,by omega,hhow.over hA.ok s6 (.inl r1),s7,s8,s9,.inr ⟨r1,r2,r3⟩⟩
theorem PutAt.there (h : YTr B N Y m) {i p j : Nat} {d : Dd} (hP : PutAt Y B N i d p j) : ∀ {b : Nat},p < b → b ≤ m → (Y b).C.getD j 0 = (Y (p + 1)).C.getD j 0 ∨ Gone Y b p j d.x:=by
 intro b hpb hb
 induction b with
 | zero=>omega
 | succ b ih =>
  by_cases hq : p = b
  ·rw [hq]
   exact .inl rfl
  rcases ih (by omega) (by omega) with hs | hg
  ·by_cases hne : (Y (b + 1)).C.getD j 0 = (Y b).C.getD j 0
   ·exact .inl (hne.trans hs)
   right
   have hA:=h.all b (by omega)
   have hhow:=h.how b (by omega)
   have hlv : (Y b).C.getD j 0 % 4 = 1:=by rw [hs]; exact hP.live
   have hj:=hP.lt
   generalize hZ : Y (b + 1) = Z at hhow hne
   cases hhow with
   | rest=>exact absurd rfl hne
   | pass n hn=>exact absurd rfl hne
   | call w0 take kd e x s' h1 h2 h3=>exact absurd rfl hne
   | step w T g z hw ha =>
    obtain ⟨_,_,_,_,dg,k5,k6,k7,k8,_⟩:=hA.ok.task w T g hw
    have hkd:=hA.cok.kind w T g dg hw k5
    have hlt : w < (Y b).ts.length:=(List.getElem?_eq_some_iff.1 hw).1
    cases T with
    | pu k =>
     exfalso
     have hF:=hA.ok.putF h.cf h.hT hA.len hw
     have b1:=hF.lo
     have b2:=hF.hi
     have b3:=hF.n1
     have hT:=h.hT
     have hlen:=hA.len
     obtain ⟨m0,_⟩:=h.cf.own h.hT hF.wT
     have hn:=hF.ok.at' hF.ph
     rcases zEj (nb:=2 * N + B.T) (C:=(Y b).C) (now:=(Y b).now) hF.ph (by rcases hn with h | h | h | h <;> omega) (by omega) (by omega : k.cl.slot.toNat < N) (q:=j) (by omega) with hh | ⟨_,hh,_⟩ | ⟨n3,hh⟩
     ·exact hne hh
     ·omega
     ·rcases hn with ⟨a1,_⟩ | ⟨a1,_⟩ | ⟨a1,_⟩ | ⟨a1,a2,_⟩
      ·omega
      ·omega
      ·omega
      ·have hP:=(hA.aok.put w k g hw).word hF.ph (.inl a2)
       rw [← hh] at hP
       exact hP.1 hlv
    | ge k =>
     obtain ⟨a,t1,t2,t3,t4,t5,t6,t7⟩:=zGt hA.ok hw hj hne
     have hM:=(h.gets b (by omega)).run w k g dg hw k5
     obtain ⟨f,f1,f2,_,f4⟩:=hM.ex
     obtain ⟨c,j',c1,c2,c3,c4,c5,c6,c7⟩:=(f4 a t1).at'
     obtain rfl : j' = j:=by omega
     obtain ⟨u,u1,u2,u3⟩:=c7 t2 t3
     have hwu : (Y u).C.getD j' 0 = (Y (p + 1)).C.getD j' 0:=by
      rw [h.stays hj u1 (Nat.le_of_lt u2) (by omega) (by rw [← c6,t5]), ← c6,t5,hs]
     obtain ⟨i2,d2,q,q1,q2,q3,q4,q5,q6,q7⟩:=(h.puts u (by omega)).live j' hj (by rw [hwu]; exact hP.live)
     obtain ⟨rfl,_⟩:=zGY h hP q5 (by omega) (by omega) (by rw [← q6,hwu])
     have hx : a.value = d.x:=by rw [u3,q7, ← q5.value,hP.value]
     have hdd:=(hA.ok.deed g dg k5).2.2.1
     have e7:=t7 z
     have hph : ((Wk.ge k).step (plOf B N w) (Y b).C (Y b).now z).ph = 0:=by
      show (k.step N (2 * N + w) (Y b).C z).ph = 0
      rw [e7]
      exact hA.ok.getF hw |>.ph
     have ets : (Y (b + 1)).ts[w]? = some (some (Wk.ge { k with ta:=some { a with next:=4 } },g)):=by
      rw [hZ]
      show (if ((Wk.ge k).step (plOf B N w) (Y b).C (Y b).now z).ph = 0 then (Y b).ts.set w (some ((Wk.ge k).step (plOf B N w) (Y b).C (Y b).now z,g)) else (Y b).ts.set w none)[w]? = _
      rw [if_pos hph,List.getElem?_set_self hlt]
      show some (some (Wk.ge (k.step N (2 * N + w) (Y b).C z),g)) = _
      rw [e7]
     have eds : (Y (b + 1)).ds[g]? = some dg:=by
      rw [hZ]
      show (if ((Wk.ge k).step (plOf B N w) (Y b).C (Y b).now z).ph = 0 then (Y b).ds else (Y b).ds.modify g (fun d=>d.over (Y b).moves ((Wk.ge k).step (plOf B N w) (Y b).C (Y b).now z)))[g]? = _
      rw [if_pos hph]
      exact k5
     have hlen:=hA.len
     have hT:=h.hT
     refine ⟨b,g,dg,by omega,by omega,hs, ?_, ?_,eds,hkd,by omega,⟨w,k6,⟨k,hw⟩, ?_⟩,.inl ⟨w,_,_,ets,rfl,rfl,t3,hx⟩⟩
     ·rw [hZ]
      show (k.cells N (2 * N + w) (Y b).C).getD j' 0 = _
      rw [t6,zAL _ (by omega),t5,hs]
     ·rw [hZ]
      show (Y b).moves < (Y b).moves + 1
      omega
     ·rw [ets,hw]
      intro hh
      have hh':=Wk.ge.inj (Prod.mk.inj (Option.some.inj (Option.some.inj hh))).1
      have h5 : k.ta = some { a with next:=4 }:=by rw [← hh']
      rw [t1] at h5
      have h6 : a = { a with next:=4 }:=Option.some.inj h5
      have h7 : a.next = 4:=by rw [h6]
      omega
  ·exact .inr (hg.next h (by omega))
end
end
section
open Go.RowKit
structure Took (Y : Nat → Yd) (N m p j : Nat) (x : Int) (g c s : Nat) (dg : Dd) : Prop where
 pc : p < c
 cs : c ≤ s
 sm : s < m
 was : (Y s).C.getD j 0 = (Y (p + 1)).C.getD j 0
 new : (Y (s + 1)).C.getD j 0 = tkW ((Y (p + 1)).C.getD j 0)
 isEnd : IsEnd ((Y c).C.take N) dg.e j
 deed : (Y m).ds[g]? = some dg
 kd : dg.kd = 1
 fr : dg.fr < (Y c).moves
 out : dg.till = -1 ∨ (dg.ok = true ∧ (Y s).moves < dg.till ∧ dg.v = x)
 run : ∃ w : Nat,(∃ k,(Y s).ts[w]? = some (some (.ge k,g))) ∧ (Y (s + 1)).ts[w]? ≠ (Y s).ts[w]?
section
variable {B : YB} {N m : Nat} {Y : Nat → Yd}
theorem YTr.later (h : YTr B N Y m) {a : Nat} : ∀ {b : Nat},a ≤ b → b ≤ m → YLater (Y a) (Y b):=by
 intro b hab hb
 induction b with
 | zero =>
  obtain rfl : a = 0:=by omega
  exact YLater.refl _
 | succ b ih =>
  by_cases hq : a = b + 1
  ·rw [← hq]
   exact YLater.refl _
  ·exact (ih (by omega) (by omega)).trans ((h.mv b (by omega)).later (h.all b (by omega)).ok)
theorem Gone.took (h : YTr B N Y m) {i p j : Nat} {d : Dd} (hP : PutAt Y B N i d p j) (hG : Gone Y m p j d.x) : ∃ g c s dg,Took Y N m p j d.x g c s dg:=by
 obtain ⟨s,g,dg,s1,s2,s3,s4,s5,s6,s7,s8,⟨w,s9,⟨k,s10⟩,s11⟩,s12⟩:=hG
 have hA:=h.all s (by omega)
 have hj:=hP.lt
 have hlv:=hP.live
 have hf:=((h.fit (p + 1) (by omega)) j).1
 have htk:=(zAj hf).1
 have hne : (Y (s + 1)).C.getD j 0 ≠ (Y s).C.getD j 0:=fun e=>by
  rw [s4,s3] at e
  omega
 have hmv : ∃ z,Y (s + 1) = (Y s).step (plOf B N w) w (.ge k) g z:=by
  have hhow:=h.how s (by omega)
  generalize hZ : Y (s + 1) = Z at hhow hne s11
  cases hhow with
  | rest=>exact absurd rfl hne
  | pass n hn=>exact absurd rfl hne
  | call w0 take kd e x s' h1 h2 h3=>exact absurd rfl hne
  | step w0 T i0 z h1 h2 =>
   have : w0 = w:=Classical.byContradiction fun hw=>s11 (by
    show (if (T.step (plOf B N w0) (Y s).C (Y s).now z).ph = 0 then (Y s).ts.set w0 (some (T.step (plOf B N w0) (Y s).C (Y s).now z,i0)) else (Y s).ts.set w0 none)[w]? = _
    split <;> exact List.getElem?_set_ne hw)
   subst this
   rw [s10] at h1
   cases h1
   exact ⟨z,rfl⟩
 obtain ⟨z,hmv⟩:=hmv
 have hne' : (k.cells N (2 * N + w) (Y s).C).getD j 0 ≠ (Y s).C.getD j 0:=by
  intro e
  apply hne
  rw [hmv]
  exact e
 obtain ⟨a,t1,t2,t3,t4,t5,_,_⟩:=zGt hA.ok s10 hj hne'
 obtain ⟨_,_,_,_,d0,k5,_⟩:=hA.ok.task w _ g s10
 have hM:=(h.gets s (by omega)).run w k g d0 s10 k5
 obtain ⟨f,f1,f2,_,f4⟩:=hM.ex
 obtain ⟨c,j',c1,c2,c3,c4,c5,c6,c7⟩:=(f4 a t1).at'
 obtain rfl : j' = j:=by omega
 obtain ⟨dg',l1,l2,l3,l4,l5,l6,l7,_⟩:=(h.later (show s ≤ m by omega) (Nat.le_refl _)).deed g d0 k5
 rw [s6] at l1
 cases l1
 have hword : (Y c).C.getD j' 0 = (Y (p + 1)).C.getD j' 0:=by rw [← c6,t5,s3]
 have hpc : p < c:=Nat.lt_of_not_le fun hcp=>by
  have:=h.stays hj (a:=c) (b:=p) (c:=p + 1) hcp (by omega) (by omega) hword
  have hfree:=hP.free
  rw [this,hword] at hfree
  exact hfree hlv
 have hfc:=h.moves c1 (by omega)
 refine ⟨g,c,s,dg,hpc,by omega,s2,s3,s4,by rw [l4, ← hM.e]; exact c5,s6,s7,by omega, ?_,w,⟨k,s10⟩,s11⟩
 rcases s12 with ⟨w',k',a',r1,_⟩ | ⟨r1,r2,r3⟩
 ·obtain ⟨_,_,_,_,d2,q5,_,q7,_⟩:=(h.all m (Nat.le_refl _)).ok.task w' _ g r1
  rw [s6] at q5
  cases q5
  exact .inl q7
 ·exact .inr ⟨r1,r2,r3⟩
end
end
section
open Go.RowKit
def dDo (row : List Int) (d : Dd) : Option (List Int) :=
 if d.kd = 0 then if d.ok = true then some (if d.e = 0 then d.x :: row else row ++ [d.x]) else some row
 else if d.ok = true then
  if row = [] then none
  else if d.e = 0 then if row.getD 0 0 = d.v then some (row.drop 1) else none
  else if row.getD (row.length - 1) 0 = d.v then some (row.take (row.length - 1)) else none
 else if row = [] then some row else none
def dAns (row : List Int) (d : Dd) : Dd :=
 if 0 ≤ d.till then d else { d with ok:=true,v:=if d.kd = 1 ∧ row ≠ [] then (if d.e = 1 then row.getD (row.length - 1) 0 else row.getD 0 0) else 0,lo:=0,hi:=0 }
def oRun (l : List Dd) : List Int → List Nat → Option (List Int)
 | row,[]=>some row
 | row,i :: s=>match l[i]? with
  | some d=>(dDo row (dAns row d)).bind (fun r=>oRun l r s)
  | none=>none
structure Holds (l : List Dd) (D : Nat → Prop) (row : List Int) (s : List Nat) : Prop where
 nodup : s.Nodup
 new : ∀ i ∈ s,¬ D i
 all : ∀ (i : Nat) (d : Dd),l[i]? = some d → 0 ≤ d.till → D i ∨ i ∈ s
 ahead : ∀ (p i k : Nat) (d o : Dd),s[p]? = some i → l[i]? = some d → l[k]? = some o → dBef o d → D k ∨ ∃ q,q < p ∧ s[q]? = some k
 run : ∃ r,oRun l row s = some r
end
section
open Go.RowKit
structure It where
 i : Nat
 k : Int
 p : Nat
 x : Int
 tk : Option (Nat × Nat × Nat)
def It.ops (a : It) : List Nat:=match a.tk with
 | none=>[a.i]
 | some t=>[a.i,t.1]
section
variable {bef : Nat → Nat → Prop} {I J A B : List It} {l : List Dd} {a b x : It} {o : Nat}
theorem It.ops_iff : o ∈ a.ops ↔ o = a.i ∨ ∃ t,a.tk = some t ∧ o = t.1:=by
 unfold It.ops
 cases h : a.tk with
 | none=>simp
 | some t=>simp
end
end
section
open Go.RowKit
section
variable {r : Nat → Nat → Prop} {I J : List It} {l : List Dd} {a x : It} {o : Nat}
end
end
section
open Go.RowKit
structure Em where
 i : Nat
 c : Nat
structure Ems (bef : Nat → Nat → Prop) (I : List It) (E : List Em) : Prop where
 pe : ∀ a ∈ I,∀ e ∈ E,bef a.i e.i → a.p < e.c
 ge : ∀ a ∈ I,∀ t,a.tk = some t → ∀ e ∈ E,bef t.1 e.i → t.2.2 < e.c
 ep : ∀ e ∈ E,∀ a ∈ I,bef e.i a.i → e.c ≤ a.p
 eg : ∀ e ∈ E,∀ a ∈ I,∀ t,a.tk = some t → bef e.i t.1 → e.c < t.2.1
 ee : ∀ e ∈ E,∀ f ∈ E,bef e.i f.i → e.c < f.c
 none : ∀ e ∈ E,∀ a ∈ I,a.p < e.c → ∃ t,a.tk = some t ∧ t.2.2 < e.c
 new : ∀ e ∈ E,∀ a ∈ I,e.i ∉ a.ops
section
variable {bef : Nat → Nat → Prop} {I J : List It} {l : List Dd}
def befL (l : List Dd) (i k : Nat) : Prop := ∃ d o,l[i]? = some d ∧ l[k]? = some o ∧ dBef d o
end
end
section
open Go.RowKit
structure IsItem (Y : Nat → Yd) (B : YB) (N m : Nat) (a : It) (d : Dd) (j : Nat) : Prop where
 deed : (Y m).ds[a.i]? = some d
 kd : d.kd = 0
 ok : d.ok = true
 pm : a.p < m
 put : PutAt Y B N a.i d a.p j
 x : a.x = d.x
 k : a.k = pkey d.e d.lo d.hi j
 no : a.tk = none → (Y m).C.getD j 0 = (Y (a.p + 1)).C.getD j 0
 yes : ∀ t,a.tk = some t → ∃ dg,Took Y N m a.p j d.x t.1 t.2.1 t.2.2 dg
section
variable {B : YB} {N m : Nat} {Y : Nat → Yd}
theorem zGC (h : YTr B N Y m) {i : Nat} {d : Dd} (hd : (Y m).ds[i]? = some d) (hk : d.kd = 0) (ho : d.ok = true) : ∃ a j,a.i = i ∧ IsItem Y B N m a d j:=by
 obtain ⟨p,j,hp,hP⟩:=(h.puts m (Nat.le_refl _)).done i d hd hk ho
 by_cases hs : (Y m).C.getD j 0 = (Y (p + 1)).C.getD j 0
 ·exact ⟨⟨i,pkey d.e d.lo d.hi j,p,d.x,none⟩,j,rfl,hd,hk,ho,hp,hP,rfl,rfl,fun _=>hs,fun t ht=>by cases ht⟩
 ·obtain ⟨g,c,s,dg,ht⟩:=((hP.there h hp (Nat.le_refl _)).resolve_left hs).took h hP
  exact ⟨⟨i,pkey d.e d.lo d.hi j,p,d.x,some (g,c,s)⟩,j,rfl,hd,hk,ho,hp,hP,rfl,rfl,fun hh=>(by cases hh),fun t hh=>by cases hh; exact ⟨dg,ht⟩⟩
theorem IsItem.word (h : YTr B N Y m) {a : It} {d : Dd} {j : Nat} (ha : IsItem Y B N m a d j) {c : Nat} (h1 : a.p < c) (h2 : ∀ t,a.tk = some t → c ≤ t.2.2) (hc : c ≤ m) : (Y c).C.getD j 0 = (Y (a.p + 1)).C.getD j 0:=by
 cases htk : a.tk with
 | none=>exact h.stays ha.put.lt (c:=m) (by omega) hc (Nat.le_refl _) (ha.no htk).symm
 | some t =>
  obtain ⟨dg,ht⟩:=ha.yes t htk
  have:=ht.sm
  exact h.stays ha.put.lt (c:=t.2.2) (by omega) (h2 t htk) (by omega) ht.was.symm
theorem IsItem.wkey (h : YTr B N Y m) {a : It} {d : Dd} {j : Nat} (ha : IsItem Y B N m a d j) {c : Nat} (h1 : a.p < c) (h2 : ∀ t,a.tk = some t → c ≤ t.2.2) (hc : c ≤ m) : wkey ((Y c).C.take N) j = a.k ∧ live ((Y c).C.take N) j:=by
 have hw:=ha.word h h1 h2 hc
 have e1:=ha.put.word
 have s1:=ha.put.st
 have g1:=ha.put.gen
 have x0:=ha.put.e0
 have x1:=ha.put.e1
 have hl:=ha.put.live
 have e2 : ((Y c).C.take N).getD j 0 = (Y (a.p + 1)).C.getD j 0:=by rw [zCg ha.put.lt,hw]
 refine ⟨?_,by unfold live; rw [e2]; exact hl⟩
 show xkey _ _ = _
 rw [e2,ha.k]
 unfold xkey
 rw [show (Y (a.p + 1)).C.getD j 0 / 4 % 2 = d.e by omega,show (Y (a.p + 1)).C.getD j 0 / 65536 % 16777216 = d.lo by omega,show (Y (a.p + 1)).C.getD j 0 / 1099511627776 = d.hi by omega]
theorem zH0 (h : YTr B N Y m) {a b : It} {d d' : Dd} {j j' : Nat} (ha : IsItem Y B N m a d j) (hb : IsItem Y B N m b d' j') {g c s : Nat} {x : Int} {dg : Dd} (ht : Took Y N m a.p j x g c s dg) (hk : a.tk = some (g,c,s)) (h1 : b.p < c) (h2 : ∀ t,b.tk = some t → c ≤ t.2.2) :
  if dg.e = 0 then a.k ≤ b.k else b.k ≤ a.k:=by
 have k1:=ht.cs
 have k2:=ht.sm
 obtain ⟨wa,_⟩:=ha.wkey h ht.pc (fun t htt=>by rw [hk] at htt; cases htt; exact k1) (by omega)
 obtain ⟨wb,lb⟩:=hb.wkey h h1 h2 (by omega)
 rcases ht.isEnd with ⟨e,_⟩ | ⟨i,e1,e2,e3,e4⟩
 ·omega
 ·obtain rfl : i = j:=by omega
  have hl : ((Y c).C.take N).length = N:=by
   rw [List.length_take]
   have:=(h.all c (by omega)).len
   have:=h.hT
   omega
  have:=e4 j' (by rw [hl]; exact hb.put.lt) lb
  rw [wa,wb] at this
  exact this
theorem dfr (h : YTr B N Y m) {i : Nat} {d : Dd} (hd : (Y m).ds[i]? = some d) : 0 ≤ d.till → d.fr < d.till:=fun ht=>((h.all m (Nat.le_refl _)).ok.deed i d hd).2.2.2 (by omega) |>.1
theorem mv_lt (h : YTr B N Y m) {a b : Nat} (ha : a ≤ m) (hl : ((Y a).moves : Int) < (Y b).moves) : a < b:=Nat.lt_of_not_le fun hba=>by
 have:=h.moves hba ha
 omega
end
end
section
open Go.RowKit
section
variable {B : YB} {N m : Nat} {Y : Nat → Yd}
theorem zDu (h : YTr B N Y m) : ∃ I : List It,(∀ a ∈ I, ∃ d j,IsItem Y B N m a d j) ∧ (∀ (i : Nat) (d : Dd),(Y m).ds[i]? = some d → d.kd = 0 → d.ok = true → ∃ a ∈ I,a.i = i) ∧ ∀ a ∈ I,∀ b ∈ I,a.i = b.i → a = b:=by
 have hex : ∀ i : Nat, ∃ a : It,(∃ d,(Y m).ds[i]? = some d ∧ d.kd = 0 ∧ d.ok = true) → a.i = i ∧ ∃ d j,IsItem Y B N m a d j:=fun i=>by
  by_cases hq : ∃ d,(Y m).ds[i]? = some d ∧ d.kd = 0 ∧ d.ok = true
  ·obtain ⟨d,h1,h2,h3⟩:=hq
   obtain ⟨a,j,e,ha⟩:=zGC h h1 h2 h3
   exact ⟨a,fun _=>⟨e,d,j,ha⟩⟩
  ·exact ⟨⟨0,0,0,0,none⟩,fun hh=>absurd hh hq⟩
 obtain ⟨f,hf⟩:=Classical.axiomOfChoice hex
 have hS : ∀ i,i ∈ (List.range (Y m).ds.length).filter (fun i=>((Y m).ds[i]?).any (fun d=>decide (d.kd = 0) && d.ok)) ↔ ∃ d,(Y m).ds[i]? = some d ∧ d.kd = 0 ∧ d.ok = true:=fun i=>by
  rw [List.mem_filter,List.mem_range]
  constructor
  ·rintro ⟨h1,h2⟩
   rw [List.getElem?_eq_getElem h1] at h2 ⊢
   simp at h2
   exact ⟨_,rfl,h2.1,h2.2⟩
  ·rintro ⟨d,h1,h2,h3⟩
   refine ⟨(List.getElem?_eq_some_iff.1 h1).1, ?_⟩
   rw [h1]
   simp [h2,h3]
 refine ⟨_,fun a ha=>?_,fun i d h1 h2 h3=>⟨f i,List.mem_map.2 ⟨i,(hS i).2 ⟨d,h1,h2,h3⟩,rfl⟩,(hf i ⟨d,h1,h2,h3⟩).1⟩,fun a ha b hb hab=>?_⟩
 ·obtain ⟨i,hi,rfl⟩:=List.mem_map.1 ha
  exact (hf i ((hS i).1 hi)).2
 ·obtain ⟨i,hi,rfl⟩:=List.mem_map.1 ha
  obtain ⟨i',hi',rfl⟩:=List.mem_map.1 hb
  have e1:=(hf i ((hS i).1 hi)).1
  have e2:=(hf i' ((hS i').1 hi')).1
  have : i = i':=by omega
  rw [this]
structure IsEm (Y : Nat → Yd) (N m : Nat) (e : Em) (d : Dd) : Prop where
 deed : (Y m).ds[e.i]? = some d
 kd : d.kd = 1
 ok : d.ok = false
 till : 0 ≤ d.till
 fr : d.fr < (Y e.c).moves
 le : ((Y e.c).moves : Int) ≤ d.till
 cm : e.c ≤ m
 none : ∀ j,j < N → ¬ (Y e.c).C.getD j 0 % 4 = 1
theorem em_of (h : YTr B N Y m) {i : Nat} {d : Dd} (hd : (Y m).ds[i]? = some d) (hk : d.kd = 1) (ho : d.ok = false) (ht : 0 ≤ d.till) : ∃ e : Em,e.i = i ∧ IsEm Y N m e d:=by
 obtain ⟨f,c,b',h1,h2,h3,h4,h5,h6⟩:=((h.gets m (Nat.le_refl _)).done i d hd hk (by omega)).no ho
 have m1:=h.moves h2 (by omega)
 have m2:=h.moves h3 h4
 refine ⟨⟨i,c⟩,rfl,hd,hk,ho,ht,by show d.fr < (Y c).moves; omega,by show ((Y c).moves : Int) ≤ _; omega,by show c ≤ m; omega,fun j hj hl=>?_⟩
 rcases h6 with ⟨_,hn⟩ | ⟨i',e1,_⟩
 ·refine hn j ?_ ?_
  ·rw [List.length_take]
   have:=(h.all c (by omega)).len
   have:=h.hT
   omega
  ·unfold live
   rw [zCg hj]
   exact hl
 ·omega
theorem ems_of (h : YTr B N Y m) {I : List It} {E : List Em} (hI : ∀ a ∈ I, ∃ d j,IsItem Y B N m a d j) (hE : ∀ e ∈ E, ∃ d,IsEm Y N m e d) : Ems (befL (Y m).ds) I E:=by
 have tl : ∀ a d j,IsItem Y B N m a d j → ((Y a.p).moves : Int) = d.till ∧ d.fr < (Y a.p).moves:=fun a d j pa=>by
  have e:=pa.put.till
  have:=dfr h pa.deed (by omega)
  omega
 refine ⟨fun a ha e he hbf=>?_,fun a ha t ht e he hbf=>?_,fun e he a ha hbf=>?_,fun e he a ha t ht hbf=>?_,fun e he f hf hbf=>?_,fun e he a ha hlt=>?_,fun e he a ha hm=>?_⟩
 ·obtain ⟨d,j,pa⟩:=hI a ha
  obtain ⟨de,pe⟩:=hE e he
  obtain ⟨x,y,x1,x2,x3,x4⟩:=hbf
  rw [pa.deed] at x1
  rw [pe.deed] at x2
  cases x1
  cases x2
  have:=tl a d j pa
  have:=pe.fr
  exact mv_lt h (by have:=pa.pm; omega) (by omega)
 ·obtain ⟨d,j,pa⟩:=hI a ha
  obtain ⟨de,pe⟩:=hE e he
  obtain ⟨dg,tk⟩:=pa.yes t ht
  obtain ⟨x,y,x1,x2,x3,x4⟩:=hbf
  rw [tk.deed] at x1
  rw [pe.deed] at x2
  cases x1
  cases x2
  have:=pe.fr
  have:=tk.sm
  rcases tk.out with q | ⟨_,q,_⟩
  ·omega
  ·exact mv_lt h (by omega) (by omega)
 ·obtain ⟨d,j,pa⟩:=hI a ha
  obtain ⟨de,pe⟩:=hE e he
  obtain ⟨x,y,x1,x2,x3,x4⟩:=hbf
  rw [pe.deed] at x1
  rw [pa.deed] at x2
  cases x1
  cases x2
  have:=tl a d j pa
  have:=pe.le
  exact Nat.le_of_lt (mv_lt h pe.cm (by omega))
 ·obtain ⟨d,j,pa⟩:=hI a ha
  obtain ⟨de,pe⟩:=hE e he
  obtain ⟨dg,tk⟩:=pa.yes t ht
  obtain ⟨x,y,x1,x2,x3,x4⟩:=hbf
  rw [pe.deed] at x1
  rw [tk.deed] at x2
  cases x1
  cases x2
  have:=pe.le
  have:=tk.fr
  exact mv_lt h pe.cm (by omega)
 ·obtain ⟨de,pe⟩:=hE e he
  obtain ⟨df,pf⟩:=hE f hf
  obtain ⟨x,y,x1,x2,x3,x4⟩:=hbf
  rw [pe.deed] at x1
  rw [pf.deed] at x2
  cases x1
  cases x2
  have:=pe.le
  have:=pf.fr
  exact mv_lt h pe.cm (by omega)
 ·obtain ⟨d,j,pa⟩:=hI a ha
  obtain ⟨de,pe⟩:=hE e he
  apply Classical.byContradiction
  intro hno
  have hw:=pa.word h hlt (fun t ht=>Nat.le_of_not_lt fun hh=>hno ⟨t,ht,hh⟩) pe.cm
  exact pe.none j pa.put.lt (by rw [hw]; exact pa.put.live)
 ·obtain ⟨d,j,pa⟩:=hI a ha
  obtain ⟨de,pe⟩:=hE e he
  rcases It.ops_iff.1 hm with e1 | ⟨t,ht,e1⟩
  ·have q:=pe.deed
   rw [e1,pa.deed] at q
   cases q
   have:=pa.kd
   have:=pe.kd
   omega
  ·obtain ⟨dg,tk⟩:=pa.yes t ht
   have q:=tk.deed
   rw [← e1,pe.deed] at q
   cases q
   have:=pe.till
   rcases tk.out with q | ⟨q,_⟩
   ·omega
   ·rw [pe.ok] at q
    cases q
theorem zCJ (h : YTr B N Y m) {I : List It} (hI : ∀ a ∈ I, ∃ d j,IsItem Y B N m a d j) (hin : ∀ (i : Nat) (d : Dd),(Y m).ds[i]? = some d → d.kd = 0 → d.ok = true → ∃ a ∈ I,a.i = i) {g : Nat} {dg : Dd} (hd : (Y m).ds[g]? = some dg) (hk : dg.kd = 1) (ho : dg.ok = true) (ht : 0 ≤ dg.till) : ∃ a ∈ I, ∃ t,a.tk = some t ∧ t.1 = g:=by
 obtain ⟨w,f,b',_,_,hb',_,hgot⟩:=((h.gets m (Nat.le_refl _)).done g dg hd hk (by omega)).ok ho
 obtain ⟨c,s,j,i,p,d,hh⟩:=zIV h hb' hgot
 have k1:=hh.sb
 have k2:=hh.cs
 have k3:=hh.pc
 have hdm:=h.over (show c ≤ m by omega) (Nat.le_refl _) hh.deed (.inl hh.ok)
 obtain ⟨a,ha,rfl⟩:=hin i d hdm hh.kd hh.ok
 obtain ⟨d',j',pa⟩:=hI a ha
 have q:=pa.deed
 rw [hdm] at q
 cases q
 have hpp : a.p = p:=by
  have e1:=pa.put.till
  have e2:=hh.put.till
  obtain ⟨w1,k1',r1,r2,r3⟩:=pa.put.run
  obtain ⟨w2,k2',r1',r2',r3'⟩:=hh.put.run
  have hpm:=pa.pm
  rcases Nat.lt_trichotomy a.p p with hl | he | hl
  ·obtain ⟨_,_,_,_,d2,x5,_,x7,_⟩:=(h.all p (by omega)).ok.task w2 _ a.i r2'
   have hlat:=(h.later (show a.p + 1 ≤ p by omega) (by omega))
   have hdone : (Y (a.p + 1)).ds[a.i]? = some d ∨ ∃ x,(Y (a.p + 1)).ds[a.i]? = some x ∧ x.till = -1:=by
    cases hx : (Y (a.p + 1)).ds[a.i]? with
    | none =>
     obtain ⟨_,_,_,_,d3,y5,_⟩:=(h.all a.p (by omega)).ok.task w1 _ a.i r2
     obtain ⟨d4,z1,_⟩:=(h.later (show a.p ≤ a.p + 1 by omega) (by omega)).deed a.i d3 y5
     rw [hx] at z1
     cases z1
    | some x =>
     by_cases hxt : x.till = -1
     ·exact .inr ⟨x,rfl,hxt⟩
     ·have:=h.over (show a.p + 1 ≤ m by omega) (Nat.le_refl _) hx (.inr hxt)
      rw [hdm] at this
      cases this
      exact .inl rfl
   rcases hdone with hx | ⟨x,hx,hxt⟩
   ·have:=h.over (show a.p + 1 ≤ p by omega) (by omega) hx (.inl hh.ok)
    rw [this] at x5
    cases x5
    omega
   ·obtain ⟨⟨w3,g1,g2,g3⟩,_⟩:=(h.all (a.p + 1) (by omega)).ok.deed a.i x hx
    obtain ⟨T,hT⟩:=g3 hxt
    obtain ⟨_,_,_,_,d3,y5,y6,_⟩:=(h.all a.p (by omega)).ok.task w1 _ a.i r2
    obtain ⟨d4,z1,z2,_⟩:=(h.later (show a.p ≤ a.p + 1 by omega) (by omega)).deed a.i d3 y5
    rw [hx] at z1
    cases z1
    have : w3 = w1:=by omega
    rw [this,r3] at hT
    cases hT
  ·exact he
  ·obtain ⟨_,_,_,_,d2,x5,_,x7,_⟩:=(h.all a.p (by omega)).ok.task w1 _ a.i r2
   have:=h.over (show c ≤ m by omega) (Nat.le_refl _) hh.deed (.inl hh.ok)
   by_cases hca : c ≤ a.p
   ·have:=h.over hca (by omega) hh.deed (.inl hh.ok)
    rw [this] at x5
    cases x5
    omega
   ·obtain ⟨_,_,_,_,d3,y5,y6,_⟩:=(h.all p (by omega)).ok.task w2 _ a.i r2'
    cases hx : (Y (p + 1)).ds[a.i]? with
    | none =>
     obtain ⟨d4,z1,_⟩:=(h.later (show p ≤ p + 1 by omega) (by omega)).deed a.i d3 y5
     rw [hx] at z1
     cases z1
    | some x =>
     by_cases hxt : x.till = -1
     ·obtain ⟨⟨w3,g1,g2,g3⟩,_⟩:=(h.all (p + 1) (by omega)).ok.deed a.i x hx
      obtain ⟨T,hT⟩:=g3 hxt
      obtain ⟨d4,z1,z2,_⟩:=(h.later (show p ≤ p + 1 by omega) (by omega)).deed a.i d3 y5
      rw [hx] at z1
      cases z1
      have : w3 = w2:=by omega
      rw [this,r3'] at hT
      cases hT
     ·have h4:=h.over (show p + 1 ≤ a.p by omega) (by omega) hx (.inr hxt)
      rw [h4] at x5
      cases x5
      exact absurd x7 hxt
 subst hpp
 have hjj : j' = j:=by
  apply Classical.byContradiction
  intro hne
  have e1:=pa.put.rest j (fun e=>hne e.symm)
  have l1:=hh.put.live
  have f1:=hh.put.free
  rw [e1] at l1
  exact f1 l1
 subst hjj
 have l1:=hh.put.live
 have ff:=((h.fit (a.p + 1) (by omega)) j').1
 have tw:=(zAj ff).1
 have hnew : (Y (s + 1)).C.getD j' 0 = tkW ((Y (a.p + 1)).C.getD j' 0):=by rw [hh.new,hh.word]
 have hwas : (Y s).C.getD j' 0 = (Y (a.p + 1)).C.getD j' 0:=by rw [hh.was,hh.word]
 refine ⟨a,ha, ?_⟩
 cases htk : a.tk with
 | none =>
  have:=h.stays hh.lt (a:=a.p + 1) (b:=s + 1) (c:=m) (by omega) (by omega) (Nat.le_refl _) (pa.no htk).symm
  rw [hnew] at this
  omega
 | some t =>
  refine ⟨t,rfl, ?_⟩
  obtain ⟨dg',tk⟩:=pa.yes t htk
  have q1:=tk.sm
  have q2:=tk.pc
  have q3:=tk.cs
  have hss : t.2.2 = s:=by
   rcases Nat.lt_trichotomy t.2.2 s with hl | he | hl
   ·have:=h.stays hh.lt (a:=t.2.2) (b:=t.2.2 + 1) (c:=s) (by omega) (by omega) (by omega) (by rw [tk.was,hwas])
    rw [tk.new,tk.was] at this
    omega
   ·exact he
   ·have:=h.stays hh.lt (a:=s) (b:=s + 1) (c:=t.2.2) (by omega) (by omega) (by omega) (by rw [tk.was,hwas])
    rw [hnew,hwas] at this
    omega
  obtain ⟨w1,⟨k1',r1⟩,r2⟩:=tk.run
  obtain ⟨k2',r1'⟩:=hh.run
  rw [hss] at r1 r2
  have hw:=zFG (h.how s (by omega)) r2 hh.turn
  subst hw
  rw [r1] at r1'
  exact (Prod.mk.inj (Option.some.inj (Option.some.inj r1'))).2
end
end
section
open Go.RowKit
section
variable {B : YB} {N m : Nat} {Y : Nat → Yd}
end
end
section
open Go.RowKit
section
variable {B : YB} {N m : Nat} {Y : Nat → Yd}
theorem zFR (h : YTr B N Y m) {g : Nat} {dg : Dd} (hd : (Y m).ds[g]? = some dg) (hk : dg.kd = 1) (ho : dg.ok = true) (ht : 0 ≤ dg.till) :
  ∃ (i : Nat) (d : Dd),(Y m).ds[i]? = some d ∧ d.kd = 0 ∧ d.ok = true ∧ dg.v = d.x ∧ d.till < dg.till ∧
   ((∀ (i i' : Nat) (d d' : Dd),(Y m).ds[i]? = some d → (Y m).ds[i']? = some d' → d.kd = 0 → d'.kd = 0 → d.x = d'.x → i = i') → ∀ (g' : Nat) (dg' : Dd),(Y m).ds[g']? = some dg' → dg'.kd = 1 → dg'.ok = true → 0 ≤ dg'.till → dg'.v = dg.v → g' = g):=by
 obtain ⟨I,hI,hin,hu⟩:=zDu h
 obtain ⟨a,ha,t,htk,rfl⟩:=zCJ h hI hin hd hk ho ht
 obtain ⟨d,j,pa⟩:=hI a ha
 obtain ⟨dg',tk⟩:=pa.yes t htk
 have q:=tk.deed
 rw [hd] at q
 cases q
 have k1:=tk.pc
 have k2:=tk.cs
 have k3:=tk.sm
 have e:=pa.put.till
 have hmv:=h.moves (show a.p ≤ t.2.2 by omega) (by omega)
 rcases tk.out with q | ⟨_,q,hv⟩
 ·omega
 refine ⟨a.i,d,pa.deed,pa.kd,pa.ok,hv,by omega,fun hx g' dg2 hd2 hk2 ho2 ht2 hv2=>?_⟩
 obtain ⟨b,hb,u,huk,rfl⟩:=zCJ h hI hin hd2 hk2 ho2 ht2
 obtain ⟨d2,j2,pb⟩:=hI b hb
 obtain ⟨dg3,tk2⟩:=pb.yes u huk
 have q2:=tk2.deed
 rw [hd2] at q2
 cases q2
 rcases tk2.out with q3 | ⟨_,_,hv3⟩
 ·omega
 have:=hx b.i a.i d2 d pb.deed pa.deed pb.kd pa.kd (by rw [← hv3,hv2,hv])
 have:=hu b hb a ha this
 subst this
 rw [htk] at huk
 cases huk
 rfl
theorem zD8 (h : YTr B N Y m) (hrest : ∀ (g : Nat) (dg : Dd),(Y m).ds[g]? = some dg → dg.kd = 1 → 0 ≤ dg.till) {e i : Nat} {de d : Dd} (hde : (Y m).ds[e]? = some de) (hk : de.kd = 1) (ho : de.ok = false) (hd : (Y m).ds[i]? = some d) (hk' : d.kd = 0) (ho' : d.ok = true) (hb : dBef d de) :
  ∃ (k : Nat) (dk : Dd),(Y m).ds[k]? = some dk ∧ dk.kd = 1 ∧ dk.ok = true ∧ dk.v = d.x ∧ ¬ dBef de dk:=by
 obtain ⟨a,j,rfl,pa⟩:=zGC h hd hk' ho'
 obtain ⟨em,rfl,pe⟩:=em_of h hde hk ho (hrest e de hde hk)
 have q:=pa.deed
 have hE:=ems_of h (I:=[a]) (E:=[em]) (fun b hb=>by rw [List.mem_singleton.1 hb]; exact ⟨_,_,pa⟩) (fun f hf=>by rw [List.mem_singleton.1 hf]; exact ⟨_,pe⟩)
 have ha:=List.mem_singleton.2 (rfl : a = a)
 have hem:=List.mem_singleton.2 (rfl : em = em)
 have hlt:=hE.pe a ha em hem ⟨d,de,hd,hde,hb⟩
 obtain ⟨t,htk,hs⟩:=hE.none em hem a ha hlt
 obtain ⟨dg,tk⟩:=pa.yes t htk
 have h0:=hrest t.1 dg tk.deed tk.kd
 rcases tk.out with q | ⟨q1,q2,q3⟩
 ·omega
 ·refine ⟨t.1,dg,tk.deed,tk.kd,q1,q3,fun hbf=>?_⟩
  have r1:=pe.le
  have r2:=tk.fr
  have r3:=tk.cs
  have hmv:=h.moves (show t.2.1 ≤ em.c by omega) pe.cm
  have:=hbf.2
  omega
def dNear (e : Int) (d' d : Dd) : Prop:=if d'.e = e then d.e ≠ e ∨ dBef d d' else d.e ≠ e ∧ dBef d' d
theorem zFi (h : YTr B N Y m) (hN : N < 1048576) {a b : It} {d d' : Dd} {j j' : Nat} (ha : IsItem Y B N m a d j) (hb : IsItem Y B N m b d' j') {t : Nat × Nat × Nat} {dg : Dd} (hk : a.tk = some t) (tk : Took Y N m a.p j d.x t.1 t.2.1 t.2.2 dg) (he : dg.e = 0 ∨ dg.e = 1) (hbf : dBef d' dg) (hl : ∀ u,b.tk = some u → t.2.1 ≤ u.2.2) :
  ¬ dNear dg.e d' d:=by
 intro hn
 have hS:=(h.all m (Nat.le_refl _)).sok
 have e1:=hb.put.till
 have f1:=tk.fr
 have hlt : b.p < t.2.1:=mv_lt h (by have:=hb.pm; omega) (by have:=hbf.2; omega)
 have htop:=zH0 h ha hb tk hk hlt hl
 have sa:=ha.put.st
 have sb:=hb.put.st
 have ja:=ha.put.lt
 have jb:=hb.put.lt
 have x0:=ha.put.e0
 have x1:=ha.put.e1
 have y0:=hb.put.e0
 have y1:=hb.put.e1
 have o1 : dBef d d' → d.hi < d'.lo:=fun hh=>hS.order a.i b.i d d' ha.deed hb.deed ha.kd ha.ok hb.kd hb.ok hh.2
 have o2 : dBef d' d → d'.hi < d.lo:=fun hh=>hS.order b.i a.i d' d hb.deed ha.deed hb.kd hb.ok ha.kd ha.ok hh.2
 rw [ha.k,hb.k] at htop
 unfold pkey lkey at htop
 unfold dNear at hn
 rcases he with he | he
 ·rw [if_pos he] at htop
  rw [he] at hn
  by_cases h1 : d'.e = 0
  ·rw [if_pos h1] at hn htop
   rcases hn with hn | hn
   ·rw [if_neg hn] at htop
    omega
   ·have:=o1 hn
    by_cases h2 : d.e = 0
    ·rw [if_pos h2] at htop
     omega
    ·rw [if_neg h2] at htop
     omega
  ·rw [if_neg h1] at hn htop
   have:=o2 hn.2
   rw [if_neg hn.1] at htop
   omega
 ·rw [if_neg (by omega)] at htop
  rw [he] at hn
  by_cases h1 : d'.e = 1
  ·rw [if_pos h1] at hn
   rw [if_neg (by omega : ¬ d'.e = 0)] at htop
   rcases hn with hn | hn
   ·rw [if_pos (by omega : d.e = 0)] at htop
    omega
   ·have:=o1 hn
    by_cases h2 : d.e = 0
    ·rw [if_pos h2] at htop
     omega
    ·rw [if_neg h2] at htop
     omega
  ·rw [if_neg h1] at hn
   rw [if_pos (by omega : d'.e = 0)] at htop
   have:=o2 hn.2
   rw [if_pos (by omega : d.e = 0)] at htop
   omega
end
end
section
open Go.RowKit
def hadBy (v : Int) (d : Dd) : Prop:=d.kd = 1 ∧ d.ok = true ∧ d.v = v
instance (v : Int) (d : Dd) : Decidable (hadBy v d):=inferInstanceAs (Decidable (_ ∧ _))
theorem YTr.callN {B : YB} {N m : Nat} {Yg : Nat → Yd} {Y : Yd} (h : YTr B N Yg m) (hY : Yg m = Y) {k : Nat} (take : Bool) {kd e x s : Int} (hk : kdI take = kd) (he : e = 0 ∨ e = 1) (x0 : 0 ≤ x) (x1 : x ≤ 18446744073709551615) (hq : Y.ts[k]? = some none) (hm : m + 1 < 1000000) :
  YTr B N (fun i=>if i ≤ m then Yg i else Y.call k kd e x s (wkB B N k take e x s)) (m + 1):=by
 have hA:=h.all m (Nat.le_refl _)
 have hf:=h.fit m (Nat.le_refl _)
 rw [hY] at hA hf
 have hw : YHow B N Y (Y.call k kd e x s (wkB B N k take e x s)):=.call k take kd e x s hq he hk
 refine h.snoc (by rw [hY]; exact hw) (by
  rw [hY]
  exact hw.mv_of (fun w take' kd' e' x' s' he=>by
   have e1:=congrArg Yd.ds he
   have e2 : (Y.ds ++ [(⟨(k : Int),kd,e,x,s,Y.moves, -1,false,0,0,0⟩ : Dd)]) = Y.ds ++ [⟨(w : Int),kd',e',x',s',Y.moves, -1,false,0,0,0⟩]:=e1
   have e3:=List.append_cancel_left e2
   simp only [List.cons.injEq,Dd.mk.injEq,and_true] at e3
   rw [← e3.2.2.2.1]
   exact ⟨x0,x1⟩) h.cf h.hT hA.len hA.ok) hf hm
structure TkIs (l : List Dd) (v : Int) (r : Int) : Prop where
 is : (r = -1 ∧ ∀ d ∈ l,¬ hadBy v d) ∨ ∃ (i : Nat) (d : Dd),r = i ∧ l[i]? = some d ∧ hadBy v d
def DOwn (l : List Dd) : Prop:=∀ (i i' : Nat) (d d' : Dd),l[i]? = some d → l[i']? = some d' → d.kd = 0 → d'.kd = 0 → d.x = d'.x → i = i'
section
variable {B : YB} {N m : Nat} {Y : Nat → Yd}
theorem zDC (h : YTr B N Y m) {i : Nat} {d : Dd} (hd : (Y m).ds[i]? = some d) (ho : d.ok = true) : 0 ≤ d.till:=by
 have hA:=(h.all m (Nat.le_refl _)).ok
 obtain ⟨⟨w,_,_,g3⟩,_,_,g6⟩:=hA.deed i d hd
 by_cases e : d.till = -1
 ·obtain ⟨T,hT⟩:=g3 e
  obtain ⟨_,_,_,_,d',k5,_,_,k8,_⟩:=hA.task w T i hT
  rw [hd] at k5
  cases k5
  rw [k8] at ho
  cases ho
 ·have h1:=(g6 e).1
  have h2:=(hA.deed i d hd).2.1
  omega
theorem zHV (h : YTr B N Y m) (hN : N < 1048576) (hx : DOwn (Y m).ds) {g io ip : Nat} {dg do' dp : Dd} (hg : (Y m).ds[g]? = some dg) (gk : dg.kd = 1) (go : dg.ok = true) (ge : dg.e = 0 ∨ dg.e = 1) (ho : (Y m).ds[io]? = some do') (ok : do'.kd = 0) (ov : do'.x = dg.v) (hp : (Y m).ds[ip]? = some dp) (pk : dp.kd = 0) (po : dp.ok = true) (hb : dBef dp dg) {r : Int} (hr : TkIs (Y m).ds dp.x r)
  (hk : (r < 0 ∧ ∀ (k : Nat) (dk : Dd),(Y m).ds[k]? = some dk → dk.kd = 1 → 0 ≤ dk.till) ∨ ∃ (k : Nat) (dk : Dd),r = k ∧ (Y m).ds[k]? = some dk ∧ dBef dg dk) : ¬ dNear dg.e dp do':=by
 obtain ⟨I,hI,hin,hu⟩:=zDu h
 obtain ⟨a,ha,t,htk,rfl⟩:=zCJ h hI hin hg gk go (zDC h hg go)
 obtain ⟨d,j,pa⟩:=hI a ha
 obtain ⟨dg2,tk⟩:=pa.yes t htk
 have q:=tk.deed
 rw [hg] at q
 cases q
 have tout:=tk.out
 have tt:=zDC h hg go
 rcases tout with q | ⟨_,q2,q3⟩
 ·omega
 have ea : a.i = io:=hx a.i io d do' pa.deed ho pa.kd ok (by rw [ov,q3])
 have pd:=pa.deed
 rw [ea,ho] at pd
 cases pd
 obtain ⟨b,hbI,hbi⟩:=hin ip dp hp pk po
 obtain ⟨d2,j2,pb⟩:=hI b hbI
 have pd:=pb.deed
 rw [hbi,hp] at pd
 cases pd
 have c1:=tk.cs
 have c2:=tk.sm
 refine zFi h hN pa pb htk tk ge hb (fun u hu2=>?_)
 obtain ⟨du,tu⟩:=pb.yes u hu2
 have u1:=tu.cs
 have u2:=tu.sm
 rcases hk with ⟨r0,hrest⟩ | ⟨k,dk,rfl,hdk,hbf⟩
 ·exfalso
  rcases tu.out with q | ⟨p1,p2,p3⟩
  ·have:=hrest u.1 du tu.deed tu.kd
   omega
  ·rcases hr.is with ⟨_,q⟩ | ⟨i',d',rfl,_⟩
   ·exact q du (List.mem_of_getElem? tu.deed) ⟨tu.kd,p1,p3⟩
   ·omega
 ·have hkh : hadBy dp.x dk:=by
   rcases hr.is with ⟨q,_⟩ | ⟨i',d',q,h6,h7⟩
   ·omega
   ·obtain rfl : i' = k:=by omega
    rw [hdk] at h6
    cases h6
    exact h7
  obtain ⟨b',hb',v,hv,hv1⟩:=zCJ h hI hin hdk hkh.1 hkh.2.1 (zDC h hdk hkh.2.1)
  obtain ⟨d3,j3,pb'⟩:=hI b' hb'
  obtain ⟨dv,tv⟩:=pb'.yes v hv
  have q:=tv.deed
  rw [hv1,hdk] at q
  cases q
  have tk0:=zDC h hdk hkh.2.1
  rcases tv.out with q | ⟨_,_,q5⟩
  ·omega
  have e1:=hx b'.i b.i d3 dp pb'.deed pb.deed pb'.kd pb.kd (by rw [← q5,hkh.2.2])
  have e2:=hu b' hb' b hbI e1
  subst e2
  rw [hu2] at hv
  cases hv
  have f1:=tv.fr
  have f2:=hbf.2
  have m1:=h.moves (show t.2.1 ≤ t.2.2 by omega) (by omega)
  have : t.2.1 < u.2.1:=mv_lt h (by omega) (by omega)
  omega
end
end
section
open Go.RowKit
def WSame (N : Nat) (C C' : List Int) : Prop:=∀ j,j < N → C'.getD j 0 = C.getD j 0
theorem WSame.refl (N : Nat) (C : List Int) : WSame N C C:=fun _ _=>rfl
theorem WSame.set {N i : Nat} (C : List Int) (x : Int) (h : N ≤ i) : WSame N C (C.set i x):=fun j hj=>zAF x (by omega)
section
variable {k : Sn} {C C' : List Int} {N st r P B : Nat} {last : Int}
theorem QInv.same (h : QInv k C N st r P B last) (e : WSame N C C') : QInv k C' N st r P B last :=
 have hN : 0 < N:=by have:=h.at'.r1; omega
 ⟨h.at',h.ph,fun hl q hq=>(h.a hl q hq).trans (e _ (Nat.mod_lt _ hN)).symm,fun hP hl=>⟨fun j hj=>((h.b hP hl).1 j hj).trans (e j hj).symm,(h.b hP hl).2⟩,h.c1,h.c2,h.c3,h.l⟩
theorem QInv.sure (h : QInv k C N st r P B last) (hr : r + 1 = N) (hP : 1 ≤ P) (hl : last < (P : Int) - 1) : (k.step C).ph = 1:=by
 obtain ⟨m1,m3,m4,m6,m7⟩:=h.at'.last (C:=C) h.ph hr
 obtain ⟨b1,b2⟩:=h.b hP hl
 rw [m7,if_pos]
 refine ⟨hP, ?_⟩
 rw [b2,b1 _ h.at'.slot_lt]
 simp
end
def GLeft (N : Nat) (k : Ge) (C : List Int) (m : Nat) : Prop :=
 (k.ta = none ∧ ∃ (st r P B : Nat) (last : Int),QInv k.sn C N st r P B last ∧ (3 * N + 10 ≤ m + r ∨ (last ≠ (P : Int) ∧ (P = 0 ∨ last = (P : Int) - 1) ∧ 2 * N + 5 ≤ m + r) ∨ (1 ≤ P ∧ last < (P : Int) - 1 ∧ N + 5 ≤ m + r))) ∨
 (∃ a,k.ta = some a ∧ ((a.lost = false ∧ (a.next ≤ 3 → C.getD a.slot.toNat 0 = a.word) ∧ (5 : Int) ≤ m + a.next) ∨ (2 * N + 10 : Int) ≤ m + a.next))
section
variable {k : Ge} {C C' : List Int} {N hz m m' : Nat} {z : Int}
theorem GLeft.same (h : GLeft N k C m) (hk : k.Ok N hz C) (hp : k.ph = 0) (e : WSame N C C') : GLeft N k C' m:=by
 rcases h with ⟨h1,st,r,P,B,last,h2,h3⟩ | ⟨a,h1,h2⟩
 ·exact .inl ⟨h1,st,r,P,B,last,h2.same e,h3⟩
 ·refine .inr ⟨a,h1, ?_⟩
  rcases h2 with ⟨h2,h3,h4⟩ | h2
  ·have ho:=(hk.ta hp a h1).1
   have h0:=ho.s0
   have h9:=ho.s1
   exact .inl ⟨h2,fun h=>(e _ (by omega)).trans (h3 h),h4⟩
  ·exact .inr h2
theorem GLeft.turn (h : GLeft N k C m) (C' : List Int) (hk : k.Ok N hz C) (hp : k.ph = 0) : GLeft N k C' (4 * N + 10):=by
 rcases h with ⟨h1,st,r,P,B,last,h2,h3⟩ | ⟨a,h1,h2⟩
 ·exact .inl ⟨h1,st,r,P,_,_,h2.store C',.inl (by omega)⟩
 ·obtain ⟨ho,ha⟩:=hk.ta hp a h1
  have:=ho.st ha
  exact .inr ⟨a,h1,.inr (by omega)⟩
theorem GLeft.start {t s so d who e start : Int} (hl : Lay t s N) : GLeft N (ge0 t s so d who e start N) C (4 * N + 10):=by
 have hn1:=hl.n1
 have ht1:=hl.t1
 have hn2:=hl.n2
 obtain ⟨m1,m2,m5,m3,m4⟩:=zAy start N (by omega) (by omega)
 obtain ⟨st,hst⟩ : ∃ st : Nat,IntKind.u64.wrap start % N = (st : Int):=⟨_,(Int.toNat_of_nonneg m3).symm⟩
 refine .inl ⟨rfl,st,0,0,0, -1, ?_,.inl (by omega)⟩
 show QInv (sn0 t s so d who (IntKind.u64.wrap start % N) N) C N st 0 0 0 (-1)
 rw [hst]
 exact QInv.start t s so d who C N st 0 (by omega)
theorem GLeft.step (h : GLeft N k C m) (hk : k.Ok N hz C) (hp : k.ph = 0) (ha : k.ask C z) : 1 ≤ m ∧ ((k.step N hz C z).ph ≠ 0 ∨ GLeft N (k.step N hz C z) (k.cells N hz C) (m - 1)):=by
 have hn1:=hk.lay.n1
 have ht1:=hk.lay.t1
 have hn2:=hk.lay.n2
 have hzz:=hk.hzz
 have w0:=hk.w0
 have w1:=hk.w1
 have hlen:=hk.len
 have hnp : ¬ k.ph ≠ 0:=by omega
 rcases h with ⟨hta,st,r,P,B,last,hq,h3⟩ | ⟨a,hta,h2⟩
 ·have e1 : k.step N hz C z = k.read (k.sn.step C) z:=by unfold Ge.step; rw [if_neg hnp,hta]
  have e2 : k.cells N hz C = C:=by unfold Ge.cells; rw [if_neg hnp,hta]
  have hr1:=hq.at'.r1
  have hl:=hq.l
  rw [e2]
  refine ⟨by omega, ?_⟩
  rcases (by omega : r + 1 < N ∨ r + 1 = N) with hr | hr
  ·have hm:=hq.mid hr
   have e3 : k.step N hz C z = { k with sn:=k.sn.step C }:=by
    rw [e1]
    unfold Ge.read
    rw [if_pos (by rw [hm.ph]; decide)]
   rw [e3]
   refine .inr (.inl ⟨hta,st,r + 1,P,B,last,hm, ?_⟩)
   rcases h3 with h3 | ⟨h3,h4,h5⟩ | ⟨h3,h4,h5⟩
   ·exact .inl (by omega)
   ·exact .inr (.inl ⟨h3,h4,by omega⟩)
   ·exact .inr (.inr ⟨h3,h4,by omega⟩)
  ·rcases hq.last hr with hm | hm
   ·have e3 : k.step N hz C z = { k with sn:=k.sn.step C }:=by
     rw [e1]
     unfold Ge.read
     rw [if_pos (by rw [hm.ph]; decide)]
    rw [e3]
    refine .inr (.inl ⟨hta,st,0,P + 1,B,last,hm, ?_⟩)
    rcases h3 with h3 | ⟨h3,h4,h5⟩ | ⟨h3,h4,h5⟩
    ·by_cases hlp : last = (P : Int)
     ·exact .inr (.inl ⟨by omega,.inr (by omega),by omega⟩)
     ·exact .inr (.inr ⟨by omega,by omega,by omega⟩)
    ·exact .inr (.inr ⟨by omega,by omega,by omega⟩)
    ·have:=hq.sure hr h3 h4
     rw [hm.ph] at this
     exact absurd this (by decide)
   ·have hd:=hm.ph
    by_cases hz0 : z < 0
    ·have e3 : k.step N hz C z = { k with sn:=k.sn.step C,ph:=2 }:=by
      rw [e1]
      unfold Ge.read
      rw [if_neg (fun h=>h hd),if_pos hz0]
     rw [e3]
     exact .inl (by show (2 : Int) ≠ 0; decide)
    ·have e3 : k.step N hz C z = { k with sn:=k.sn.step C,ta:=some (ta0 k.t k.s k.so k.d k.who z ((k.sn.step C).X.getD z.toNat 0)) }:=by
      rw [e1]
      unfold Ge.read
      rw [if_neg (fun h=>h hd),if_neg hz0]
     have hE:=ha hp hta hd
     have hzN : z.toNat < N:=by
      rcases hE with ⟨hz1,_⟩ | ⟨j,rfl,hj,_⟩
      ·omega
      ·have:=hm.at'.X
       rw [Int.toNat_natCast]
       omega
     rw [e3]
     refine .inr (.inr ⟨_,rfl, ?_⟩)
     show (false = false ∧ ((0 : Int) ≤ 3 → C.getD z.toNat 0 = (k.sn.step C).X.getD z.toNat 0) ∧ (5 : Int) ≤ (m - 1 : Nat) + 0) ∨ (2 * N + 10 : Int) ≤ (m - 1 : Nat) + 0
     rcases h3 with h3 | ⟨h3,h4,h5⟩ | ⟨h3,h4,h5⟩
     ·exact .inr (by omega)
     ·exact .inl ⟨rfl,fun _=>(hm.x (by omega) _ hzN).symm,by omega⟩
     ·exact .inl ⟨rfl,fun _=>(hm.x (by omega) _ hzN).symm,by omega⟩
 ·obtain ⟨ho,ap⟩:=hk.ta hp a hta
  have s0:=ho.s0
  have s1:=ho.s1
  have e1 : k.step N hz C z = k.grab N (a.go a.slot.toNat (N + a.slot.toNat) C):=by unfold Ge.step; rw [if_neg hnp,hta]
  have e2 : k.cells N hz C = a.cells a.slot.toNat hz C:=by unfold Ge.cells; rw [if_neg hnp,hta]
  have on : ∀ a' : Ta,a.go a.slot.toNat (N + a.slot.toNat) C = a' → a'.ph = 0 → k.step N hz C z = { k with ta:=some a' }:=fun a' g hp'=>by
   rw [e1,g]
   unfold Ge.grab
   rw [if_neg (by omega),if_neg (by omega)]
  rcases ho.st ap with ⟨hn,hl⟩ | ⟨hn,hl⟩ | ⟨hn,hl⟩ | ⟨hn,hl⟩ | hn
  ·obtain ⟨g1,g2,g3⟩:=go_0 (j:=a.slot.toNat) (jv:=N + a.slot.toNat) (hz:=hz) (C:=C) ap hn
   rw [on _ g1 ap,e2,g2]
   refine ⟨by omega,.inr (.inr ⟨_,rfl, ?_⟩)⟩
   rcases h2 with ⟨h2,h3,h4⟩ | h2
   ·exact .inl ⟨hl,fun _=>by show (C.set hz _).getD a.slot.toNat 0 = a.word; exact (zAF _ (by omega)).trans (h3 (by omega)),by show (5 : Int) ≤ (m - 1 : Nat) + 1; omega⟩
   ·exact .inr (by show (2 * N + 10 : Int) ≤ (m - 1 : Nat) + 1; omega)
  ·by_cases hw : C.getD a.slot.toNat 0 = a.word
   ·obtain ⟨g1,g2,g3⟩:=go_1y (jv:=N + a.slot.toNat) (hz:=hz) ap hn hw
    rw [on _ g1 ap,e2,g2]
    refine ⟨by omega,.inr (.inr ⟨_,rfl, ?_⟩)⟩
    rcases h2 with ⟨h2,h3,h4⟩ | h2
    ·exact .inl ⟨hl,fun _=>hw,by show (5 : Int) ≤ (m - 1 : Nat) + 2; omega⟩
    ·exact .inr (by show (2 * N + 10 : Int) ≤ (m - 1 : Nat) + 2; omega)
   ·obtain ⟨g1,g2,g3⟩:=go_1n (jv:=N + a.slot.toNat) (hz:=hz) ap hn hw
    rw [on _ g1 ap,e2,g2]
    rcases h2 with ⟨h2,h3,h4⟩ | h2
    ·exact absurd (h3 (by omega)) hw
    ·exact ⟨by omega,.inr (.inr ⟨_,rfl,.inr (by show (2 * N + 10 : Int) ≤ (m - 1 : Nat) + 4; omega)⟩)⟩
  ·obtain ⟨g1,g2,g3⟩:=go_2 (j:=a.slot.toNat) (jv:=N + a.slot.toNat) (hz:=hz) (C:=C) ap hn
   rw [on _ g1 ap,e2,g2]
   refine ⟨by omega,.inr (.inr ⟨_,rfl, ?_⟩)⟩
   rcases h2 with ⟨h2,h3,h4⟩ | h2
   ·exact .inl ⟨hl,fun _=>h3 (by omega),by show (5 : Int) ≤ (m - 1 : Nat) + 3; omega⟩
   ·exact .inr (by show (2 * N + 10 : Int) ≤ (m - 1 : Nat) + 3; omega)
  ·by_cases hw : C.getD a.slot.toNat 0 = a.word
   ·obtain ⟨g1,g2,g3⟩:=go_3y (jv:=N + a.slot.toNat) (hz:=hz) ap hn hw
    rw [on _ g1 ap,e2,g2]
    refine ⟨by omega,.inr (.inr ⟨_,rfl, ?_⟩)⟩
    rcases h2 with ⟨h2,h3,h4⟩ | h2
    ·exact .inl ⟨hl,fun h=>absurd h (by show ¬ (4 : Int) ≤ 3; decide),by show (5 : Int) ≤ (m - 1 : Nat) + 4; omega⟩
    ·exact .inr (by show (2 * N + 10 : Int) ≤ (m - 1 : Nat) + 4; omega)
   ·obtain ⟨g1,g2,g3⟩:=go_3n (jv:=N + a.slot.toNat) (hz:=hz) ap hn hw
    rw [on _ g1 ap,e2,g2]
    rcases h2 with ⟨h2,h3,h4⟩ | h2
    ·exact absurd (h3 (by omega)) hw
    ·exact ⟨by omega,.inr (.inr ⟨_,rfl,.inr (by show (2 * N + 10 : Int) ≤ (m - 1 : Nat) + 4; omega)⟩)⟩
  ·by_cases hl : a.lost = true
   ·obtain ⟨g1,g2,g3⟩:=go_4n (j:=a.slot.toNat) (jv:=N + a.slot.toNat) (hz:=hz) (C:=C) ap hn hl
    have e3 : k.step N hz C z = { k with tries:=k.tries + 1,sn:=sn0 k.t k.s k.so k.d k.who (IntKind.u64.wrap k.start % N) N,ta:=none }:=by
     rw [e1,g1]
     unfold Ge.grab
     rw [if_neg (by show ¬ (2 : Int) = 1; decide),if_pos rfl]
    rw [e3,e2,g2]
    rcases h2 with ⟨h2,_⟩ | h2
    ·rw [hl] at h2
     cases h2
    ·obtain ⟨m1,m2,m5,m3,m4⟩:=zAy k.start N (by omega) (by omega)
     obtain ⟨st,hst⟩ : ∃ st : Nat,IntKind.u64.wrap k.start % N = (st : Int):=⟨_,(Int.toNat_of_nonneg m3).symm⟩
     refine ⟨by omega,.inr (.inl ⟨rfl,st,0,0,0, -1, ?_,.inr (.inl ⟨by decide,.inl rfl,by omega⟩)⟩)⟩
     show QInv (sn0 k.t k.s k.so k.d k.who (IntKind.u64.wrap k.start % N) N) _ N st 0 0 0 (-1)
     rw [hst]
     exact QInv.start _ _ _ _ _ _ N st 0 (by omega)
   ·have hl' : a.lost = false:=by simpa using hl
    obtain ⟨g1,g2,g3⟩:=go_4y (j:=a.slot.toNat) (jv:=N + a.slot.toNat) (hz:=hz) (C:=C) ap hn hl'
    have e3 : k.step N hz C z = { k with ta:=some { a with next:=5,ph:=1 },ph:=1 }:=by
     rw [e1,g1]
     unfold Ge.grab
     rw [if_pos rfl]
    rw [e3]
    exact ⟨by rcases h2 with ⟨_,_,h4⟩ | h2 <;> omega,.inl (by show (1 : Int) ≠ 0; decide)⟩
end
theorem zGx {nb N : Nat} {k : Tk} {C : List Int} {now : Int} (h : N ≤ nb) : WSame N C (stp nb k C now).2.1:=by
 have h0 : ∀ x,WSame N C (C.set nb x):=fun x=>WSame.set C x h
 have h1 : ∀ x,WSame N C (C.set (nb + k.who.toNat) x):=fun x=>WSame.set C x (by omega)
 have h2 : WSame N C C:=WSame.refl N C
 unfold stp
 repeat' split
 all_goals first | exact h0 _ | exact h1 _ | exact h2
def WTurn (N : Nat) (T T' : Wk) (E : List Ev) : Prop :=
 (∃ e,E = [e] ∧ 0 ≤ e.cell ∧ e.cell < N ∧ (e.op = 1 ∨ (e.op = 2 ∧ e.ok = true))) ∧ (T'.ph = 1 ∨ ∃ k a,T' = .ge k ∧ k.ph = 0 ∧ k.ta = some a ∧ a.next = 4 ∧ a.lost = false)
def Wk.last (T : Wk) : Prop := ∃ k a,T = .ge k ∧ k.ph = 0 ∧ k.ta = some a ∧ a.next = 4 ∧ a.lost = false
theorem Wk.words {T : Wk} {P : Pl} {C : List Int} {now z : Int} (h : T.Ok P C) (hp : T.ph = 0) : WSame P.N C (T.cells P C now) ∨ WTurn P.N T (T.step P C now z) (T.ev P C now):=by
 cases T with
 | pu k =>
  have h1 : k.Ok P.N P.m P.nb P.h0 C:=h
  have hp0 : k.ph = 0:=hp
  have hnp : ¬ k.ph ≠ 0:=by omega
  have s0:=h1.cl.s0; have s1:=h1.cl.s1; have m0:=h1.cl.m0; have m1:=h1.cl.m1; have nt:=h1.tk.nt; have t1:=h1.cl.lay.t1; have ct:=h1.ct; have tt:=h1.tt
  show WSame P.N C (k.cells P.N P.nb C now) ∨ WTurn P.N (.pu k) (.pu (k.step P.m P.nb P.h0 C now)) (k.ev P.N P.nb P.h0 C now)
  rcases h1.at' hp0 with ⟨a,_,_⟩ | ⟨a,_,_⟩ | ⟨a,_,_⟩ | ⟨a,_,_⟩
  ·refine .inl ?_
   unfold Pu.cells
   rw [if_neg hnp,if_pos a]
   exact WSame.refl _ _
  ·refine .inl ?_
   unfold Pu.cells
   rw [if_neg hnp,if_neg (by omega),if_pos a]
   exact zGx (by omega)
  ·refine .inl ?_
   unfold Pu.cells
   rw [if_neg hnp,if_neg (by omega),if_neg (by omega),if_pos a]
   exact WSame.set _ _ (by omega)
  ·refine .inr ⟨?_,.inl ?_⟩
   ·unfold Pu.ev
    rw [if_neg hnp,if_neg (by omega),if_neg (by omega),if_neg (by omega)]
    exact ⟨_,rfl,by show (0 : Int) ≤ (k.cl.slot.toNat : Nat); omega,by show ((k.cl.slot.toNat : Nat) : Int) < P.N; omega,.inl rfl⟩
   ·show (k.step P.m P.nb P.h0 C now).ph = 1
    unfold Pu.step
    rw [if_neg hnp,if_neg (by omega),if_neg (by omega),if_neg (by omega)]
 | ge k =>
  have h1 : k.Ok P.N P.hw C:=h.1
  have hp0 : k.ph = 0:=hp
  have hnp : ¬ k.ph ≠ 0:=by omega
  have hzz:=h1.hzz
  have w0:=h1.w0
  show WSame P.N C (k.cells P.N P.hw C) ∨ WTurn P.N (.ge k) (.ge (k.step P.N P.hw C z)) (k.ev P.N P.hw C)
  cases hta : k.ta with
  | none =>
   refine .inl ?_
   have e2 : k.cells P.N P.hw C = C:=by unfold Ge.cells; rw [if_neg hnp,hta]
   rw [e2]
   exact WSame.refl _ _
  | some a =>
   obtain ⟨ho,ap⟩:=h1.ta hp0 a hta
   have s0:=ho.s0
   have s1:=ho.s1
   have e1 : k.step P.N P.hw C z = k.grab P.N (a.go a.slot.toNat (P.N + a.slot.toNat) C):=by unfold Ge.step; rw [if_neg hnp,hta]
   have e2 : k.cells P.N P.hw C = a.cells a.slot.toNat P.hw C:=by unfold Ge.cells; rw [if_neg hnp,hta]
   have e3 : k.ev P.N P.hw C = a.ev a.slot.toNat (P.N + a.slot.toNat) P.hw C:=by unfold Ge.ev; rw [if_neg hnp,hta]
   rw [e2]
   rcases ho.st ap with ⟨hn,hl⟩ | ⟨hn,hl⟩ | ⟨hn,hl⟩ | ⟨hn,hl⟩ | hn
   ·rw [(go_0 (j:=a.slot.toNat) (jv:=P.N + a.slot.toNat) (hz:=P.hw) (C:=C) ap hn).2.1]
    exact .inl (WSame.set _ _ (by omega))
   ·by_cases hw : C.getD a.slot.toNat 0 = a.word
    ·rw [(go_1y (jv:=P.N + a.slot.toNat) (hz:=P.hw) ap hn hw).2.1]
     exact .inl (WSame.refl _ _)
    ·rw [(go_1n (jv:=P.N + a.slot.toNat) (hz:=P.hw) ap hn hw).2.1]
     exact .inl (WSame.refl _ _)
   ·rw [(go_2 (j:=a.slot.toNat) (jv:=P.N + a.slot.toNat) (hz:=P.hw) (C:=C) ap hn).2.1]
    exact .inl (WSame.refl _ _)
   ·by_cases hw : C.getD a.slot.toNat 0 = a.word
    ·obtain ⟨g1,g2,g3⟩:=go_3y (jv:=P.N + a.slot.toNat) (hz:=P.hw) ap hn hw
     refine .inr ⟨⟨_,e3.trans g3,by show (0 : Int) ≤ (a.slot.toNat : Nat); omega,by show ((a.slot.toNat : Nat) : Int) < P.N; omega,.inr ⟨rfl,rfl⟩⟩,.inr ⟨{ k with ta:=some { a with next:=4 } }, { a with next:=4 }, ?_,hp0,rfl,rfl,hl⟩⟩
     rw [e1,g1]
     unfold Ge.grab
     rw [if_neg (by show ¬ a.ph = 1; omega),if_neg (by show ¬ a.ph = 2; omega)]
    ·rw [(go_3n (jv:=P.N + a.slot.toNat) (hz:=P.hw) ap hn hw).2.1]
     exact .inl (WSame.refl _ _)
   ·by_cases hl : a.lost = true
    ·rw [(go_4n (j:=a.slot.toNat) (jv:=P.N + a.slot.toNat) (hz:=P.hw) (C:=C) ap hn hl).2.1]
     exact .inl (WSame.set _ _ (by omega))
    ·rw [(go_4y (j:=a.slot.toNat) (jv:=P.N + a.slot.toNat) (hz:=P.hw) (C:=C) ap hn (by simpa using hl)).2.1]
     exact .inl (WSame.set _ _ (by omega))
theorem Wk.last_over {T : Wk} {P : Pl} {C : List Int} {now z : Int} (h : T.Ok P C) (hl : T.last) : (T.step P C now z).ph = 1:=by
 obtain ⟨k,a,rfl,hp,hta,hn,hf⟩:=hl
 have h1 : k.Ok P.N P.hw C:=h.1
 obtain ⟨ho,ap⟩:=h1.ta hp a hta
 show (k.step P.N P.hw C z).ph = 1
 have e1 : k.step P.N P.hw C z = k.grab P.N (a.go a.slot.toNat (P.N + a.slot.toNat) C):=by unfold Ge.step; rw [if_neg (by omega),hta]
 rw [e1,(go_4y (j:=a.slot.toNat) (jv:=P.N + a.slot.toNat) (hz:=0) (C:=C) ap hn hf).1]
 unfold Ge.grab
 rw [if_pos rfl]
def WLeft (P : Pl) (T : Wk) (C : List Int) (m : Nat) : Prop:=match T with
 | .pu k=>k.rem P.m ≤ m
 | .ge k=>GLeft P.N k C m
section
variable {T : Wk} {P : Pl} {C C' : List Int} {now z : Int} {m m' : Nat}
theorem WLeft.same (h : WLeft P T C m) (hk : T.Ok P C) (hp : T.ph = 0) (e : WSame P.N C C') : WLeft P T C' m:=by
 cases T with
 | pu k=>exact h
 | ge k=>exact GLeft.same h hk.1 hp e
theorem WLeft.step (h : WLeft P T C m) (hk : T.Ok P C) (hp : T.ph = 0) (ha : T.ask C z) (n0 : 0 ≤ now) (hf : ∀ j,0 ≤ C.getD j 0) : 1 ≤ m ∧ ((T.step P C now z).ph ≠ 0 ∨ WLeft P (T.step P C now z) (T.cells P C now) (m - 1)):=by
 cases T with
 | pu k =>
  have hk' : k.Ok P.N P.m P.nb P.h0 C:=hk
  have h' : k.rem P.m ≤ m:=h
  have h1:=(hk'.next_ (now:=now) n0 hf).2 hp
  have h2:=Pu.rem_pos hk' hp
  refine ⟨by omega,.inr ?_⟩
  show (k.step P.m P.nb P.h0 C now).rem P.m ≤ (m - 1 : Nat)
  omega
 | ge k=>exact GLeft.step h hk.1 hp ha
end
end
end Go.Proofs.YtjlpidjilonhfaaGreat
