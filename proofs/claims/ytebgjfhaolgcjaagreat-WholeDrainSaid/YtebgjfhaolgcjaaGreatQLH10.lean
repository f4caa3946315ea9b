/- Contracts and plain lemmas that these laws need. No condition. -/

import Derived.Test.YtebgjfhaolgcjaaGreatQLH1
import Derived.Test.YtebgjfhaolgcjaaGreatQLH2
import Derived.Test.YtebgjfhaolgcjaaGreatQLH7
import Derived.Test.YtebgjfhaolgcjaaGreatQLH9
namespace Go.Proofs.YtebgjfhaolgcjaaGreat
set_option linter.unusedVariables false
set_option maxHeartbeats 8000000
set_option maxRecDepth 100000
section
open Go.RowKit
section
variable {T mode most c p : Int} {l : List CM} {v : LM}
theorem zCK (h : v.base.k = 2) : topOne T mode most (c,p,l) v = (c,p,l ++ [v.base]):=by
 unfold topOne
 rw [if_neg (by omega),if_pos h]
theorem zCl (h : v.base.k = 1) : topOne T mode most (c,p,l) v = (c,p,l ++ [{ v.base with who:=v.base.who % T }]):=by
 unfold topOne
 rw [if_neg (by omega),if_neg (by omega)]
theorem zCa (h : v.base.k = 0) (hc : c = most) : topOne T mode most (c,p,l) v = (c,p,l):=by
 unfold topOne
 rw [if_pos h,if_pos hc]
theorem zDI (h : v.base.k = 0) (hc : c ≠ most) (hk : v.base.ck = 0) : topOne T mode most (c,p,l) v = (c + 1,p + 1,l ++ [{ v.base with who:=v.base.who % T,ce:=topEnd mode v.base,v:=100 + (p + 1) }]):=by
 unfold topOne
 rw [if_pos h,if_neg hc,if_pos hk]
theorem zDN (h : v.base.k = 0) (hc : c ≠ most) (hk : v.base.ck ≠ 0) : topOne T mode most (c,p,l) v = (c + 1,p,l ++ [{ v.base with who:=v.base.who % T,ce:=topEnd mode v.base }]):=by
 unfold topOne
 rw [if_pos h,if_neg hc,if_neg hk]
end
structure TopSc (w : World) (r : Ending) (w' : World) (T s so d : Int) (A : Option Addr) (cp : Nat) (S : List CM) : Prop where
 ret : r = .returned (.tuple #[scV T s so d (.slice A S.length cp),.bool true])
 below : Below w.heap.size w w'
 row : w'.ownsRow w.heap.size 39 7 (.slice A S.length cp) S.length (flatM S)
theorem zE9 (a0 a1 a2 mode most : Int) (a5 : Option Addr) (cap : Nat) (V : List LM) (w : World) (hV : RowL w a5 cap V) (hl : V.length ≤ 300) (hm : mode = 0 ∨ mode = 1 ∨ mode = 2) :
  Calls Tryz.prog 32 #[.int .i64 a0,.int .i64 a1,.int .i64 a2,.int .i64 mode,.int .i64 most,.slice a5 V.length cap] w fun r w' => ∃ A cp,TopSc w r w' (1 + a0 % 4) (1 + a1 % 4) (wrap64 ((IntKind.u64.wrap a2).tmod 5)) 1 A cp (topS (1 + a0 % 4) mode most V).2.2:=by
 have HV:=zIn hV
 clear hV
 have HCF:=zIn (fun w=>zHF a0 a1 a2 1 w)
 rw [show (1 : Int) % 4 = 1 from rfl] at HCF
 obtain ⟨T,hT⟩ : ∃ T,1 + a0 % 4 = T:=⟨_,rfl⟩
 obtain ⟨s,hs⟩ : ∃ s,1 + a1 % 4 = s:=⟨_,rfl⟩
 obtain ⟨so,hso⟩ : ∃ so,wrap64 ((IntKind.u64.wrap a2).tmod 5) = so:=⟨_,rfl⟩
 have hT1 : 1 ≤ T:=by omega
 have hT4 : T ≤ 4:=by omega
 rw [hT,hs,hso] at HCF ⊢
 clear hT hs hso
 go_enter Tryz.func32,Tryz.ntmps32
 go_wp2_with fail
 refine (HCF.out _).mono ?_
 rintro r w2 ⟨rfl,hb2⟩
 clear HCF
 have HH0:=(Hold.nil (Below.refl w.heap.size w)).more (A:=tObj w.heap.size w.heap.size [i64 0,i64 0,i64 0,i64 0,.slice none 0 0]) (zAA (Below.refl _ _) (.cells #[.int .i64 0,.int .i64 0,.int .i64 0,.int .i64 0,.slice none 0 0] 29)) (zAO _ _ _) ⟨IsObj.made _ [i64 0,i64 0,i64 0,i64 0,.slice none 0 0] 29,Nat.le_refl _⟩ (fun q hq=>by cases hq; exact Nat.le_refl _)
 have HH1:=HH0.later hb2
 have HH2:=HH1.more (A:=tObj w.heap.size w2.heap.size [i64 T,i64 s,i64 so,i64 1]) (zAA (Below.refl _ _) (.cells #[.int .i64 T,.int .i64 s,.int .i64 so,.int .i64 1] 24)) (zAO _ _ _) ⟨IsObj.made _ [i64 T,i64 s,i64 so,i64 1] 24,HH1.size⟩ (fun q hq=>by cases hq; exact Nat.le_refl _)
 have HH3:=HH2.more (A:=tObj w.heap.size (w2.alloc (.cells #[.int .i64 T,.int .i64 s,.int .i64 so,.int .i64 1] 24)).heap.size [i64 T,i64 s,i64 so,i64 1,.slice none 0 0]) (zAA (Below.refl _ _) (.cells #[.int .i64 T,.int .i64 s,.int .i64 so,.int .i64 1,.slice none 0 0] 29)) (zAO _ _ _) ⟨IsObj.made _ [i64 T,i64 s,i64 so,i64 1,.slice none 0 0] 29,HH2.size⟩ (fun q hq=>by cases hq; exact Nat.le_refl _)
 have HH4:=HH3.more (A:=tRow w.heap.size 39 7 (.slice none 0 0) 0 []) (Below.refl _ _) (zAx _ _ _ _ _ _) (World.ownsRow_nil _ _ _ _) (fun q hq=>by cases hq)
 simp only [World.size_alloc] at HH4
 have HH:=zIn HH4
 clear HH0 HH1 HH2 HH3 HH4 hb2
 go_wp2_with fail
 generalize hsb : w2.heap.size + 1 = sb at HH ⊢
 generalize hcb : w2.heap.size = cb at HH ⊢
 clear hsb hcb
 go_loopw [16,17,29] (fun cv pv iv wr => ∃ (i : Nat) (c p : Int) (l : List CM) (A1 : Option Addr) (cp1 : Nat),i ≤ V.length ∧ cv = .int .i64 c ∧ pv = .int .u64 p ∧ iv = .int .i64 i ∧ Hid (topS T mode most (V.take i) = (c,p,l)) ∧ Hid (Hold w wr [tObj w.heap.size w.heap.size [i64 0,i64 0,i64 0,i64 0,.slice none 0 0],tObj w.heap.size cb [i64 T,i64 s,i64 so,i64 1],tObj w.heap.size sb [i64 T,i64 s,i64 so,i64 1,.slice A1 l.length cp1],tRow w.heap.size 39 7 (.slice A1 l.length cp1) l.length (flatM l)])) (fun _ _ iv _=>V.length - (RowKit.intOf iv).toNat)
 case atStart=>exact ⟨0,0,0,[],none,0,Nat.zero_le _,rfl,rfl,rfl,zIn rfl,HH⟩
 case round =>
  clear HH
  obtain ⟨i,c,p,l,A1,cp1,hi,rfl,rfl,rfl,HST,HH⟩:=hrel
  have hok:=TopOk.of mode most (T:=T) (by omega) (by omega) (V.take i) (by rw [List.length_take]; omega)
  rw [HST.out] at hok
  have hc0 : 0 ≤ c:=hok.c0
  have hp0 : 0 ≤ p:=hok.p0
  have hti : (V.take i).length = i:=by rw [List.length_take]; omega
  have hc1 : c ≤ 300:=by have h : c ≤ ((V.take i).length : Int):=hok.c1; omega
  have hp1 : p ≤ 300:=by have h : p ≤ ((V.take i).length : Int):=hok.p1; omega
  have hl1 : l.length ≤ 300:=by have h : l.length ≤ (V.take i).length:=hok.len; omega
  clear hok hti
  rcases Nat.lt_or_ge i V.length with hil | hil
  ·have hil' : (i : Int) < (V.length : Int):=by omega
   obtain ⟨v,hv⟩ : ∃ v,V[i]? = some v:=⟨_,List.getElem?_eq_getElem hil⟩
   obtain ⟨b,off,rfl,hat⟩:=HV.out.at' i v hv
   have HTK:=zIn (show topS T mode most (V.take (i + 1)) = topOne T mode most (c,p,l) v by rw [List.take_add_one,hv,show (some v).toList = [v] from rfl,zGo,HST.out])
   have HOK:=zIn (TopOk.of mode most (T:=T) (by omega) (by omega) (V.take (i + 1)) (by rw [List.length_take]; omega))
   rw [HTK.out] at HOK
   have HMF:=zIn (show v.base.Fit from LM.base_fit (HV.out.fit v (List.mem_of_getElem? hv)))
   obtain ⟨e0,e1,e2,e3,e4,e5,e6,e7⟩:=hat.later (HH.out.below)
   have hcap:=HV.out.cap
   clear hat hv
   have HHa:=zIn (HH.out.later (zAA (Below.refl _ _) (({ v with odd:=0 } : LM).obj 32)))
   go_wp2_with fail
   refine (zFq { v with odd:=0 } _).mono ?_
   rintro r w3 ⟨rfl,hb3⟩
   rw [LM.even rfl]
   have hbase : ({ v with odd:=0 } : LM).base = v.base:=rfl
   rw [hbase]
   have HHb:=zIn (HHa.out.later hb3)
   have HOP : Hid (∀ {x : Int × Int × List CM},topOne T mode most (c,p,l) v = x → TopOk T x (V.take (i + 1)).length):=zIn (fun hx=>hx ▸ HOK.out)
   have hb0:=fun h=>LM.base_beg (v:=v) h
   have hbr:=fun h=>LM.base_rest (v:=v) h
   have HONE : Hid (∀ b : CM,v.base = b → (∀ (mode most c p : Int) (l : List CM),b.k = 2 → topOne T mode most (c,p,l) v = (c,p,l ++ [b])) ∧ (∀ (mode most c p : Int) (l : List CM),b.k = 1 → topOne T mode most (c,p,l) v = (c,p,l ++ [{ b with who:=b.who % T }])) ∧ (∀ (mode most c p : Int) (l : List CM),b.k = 0 → c = most → topOne T mode most (c,p,l) v = (c,p,l)) ∧ (∀ (mode most c p : Int) (l : List CM),b.k = 0 → c ≠ most → b.ck = 0 → topOne T mode most (c,p,l) v = (c + 1,p + 1,l ++ [{ b with who:=b.who % T,ce:=topEnd mode b,v:=100 + (p + 1) }])) ∧ (∀ (mode most c p : Int) (l : List CM),b.k = 0 → c ≠ most → b.ck ≠ 0 → topOne T mode most (c,p,l) v = (c + 1,p,l ++ [{ b with who:=b.who % T,ce:=topEnd mode b }]))):=zIn (fun b hb=>by
    subst hb
    exact ⟨fun _ _ _ _ _ h=>zCK h,fun _ _ _ _ _ h=>zCl h,fun _ _ _ _ _ h h2=>zCa h h2,fun _ _ _ _ _ h h2 h3=>zDI h h2 h3,fun _ _ _ _ _ h h2 h3=>zDN h h2 h3⟩)
   clear hb3 HHa HH e0 e1 e2 e3 e4 e5 e6 e7 hbase HOK
   generalize hbv : v.base = bb at HMF hb0 hbr ⊢
   obtain ⟨o2,o1,o3,o4,o5⟩:=HONE.out bb hbv
   have HO1:=zIn o1
   have HO2:=zIn o2
   have HO3:=zIn o3
   have HO4:=zIn o4
   have HO5:=zIn o5
   clear hbv o1 o2 o3 o4 o5 HONE
   obtain ⟨k,who,ck,ce,x,stt,n⟩:=bb
   simp only at hb0 hbr HMF HO1 HO2 HO3 HO4 HO5 ⊢
   have hco:=(HHb.out.has 1 _ rfl : IsObj w3 cb [i64 T,i64 s,i64 so,i64 1] ∧ _).1
   have d0:=hco.at' 0 _ rfl
   have hcbl:=hco.lt
   clear hco
   by_cases hk0 : k = 0
   ·obtain ⟨w0,w63,n0,hce,hck⟩:=hb0 hk0
    clear hb0 hbr w63 n0 hce
    subst hk0
    have hrem : who.tmod T = who % T:=Int.tmod_eq_emod_of_nonneg w0
    obtain ⟨y,hy⟩ : ∃ y,who % T = y:=⟨_,rfl⟩
    have hy0 : 0 ≤ y:=by rw [← hy]; exact Int.emod_nonneg _ (by omega)
    have hy1 : y < T:=by rw [← hy]; exact Int.emod_lt_of_pos _ (by omega)
    rw [hy] at hrem HO1 HO4 HO5
    clear hy
    have hTn : ¬ T = 0:=by omega
    by_cases hcm : c = most
    ·have hcb : (c == most) = true:=by rw [hcm]; exact beq_self_eq_true _
     have HC:=zIn hcm
     clear hcm
     have HHz:=zIn (HHb.out.later (zAA (Below.refl _ _) ((⟨0,y,ck,ce,x,stt,n⟩ : CM).obj 39)))
     clear HHb
     go_wp2_with fail
     go_roundw
     case rel =>
      exact ⟨i + 1,c,p,l,A1,cp1,by omega,rfl,rfl,by go_num,zIn (HTK.out.trans (HO3.out mode most c p l rfl HC.out)),HHz⟩
     case measure=>first | omega | (simp [RowKit.intOf]; done) | (simp [RowKit.intOf]; omega)
    ·have hcb : (c == most) = false:=beq_false_of_ne hcm
     have HC:=zIn hcm
     clear hcm
     have hp2 : IntKind.u64.wrap (p + 1) = p + 1:=by rw [IntKind.wrap_u64]; omega
     have hp3 : IntKind.u64.wrap (100 + (p + 1)) = 100 + (p + 1):=by rw [IntKind.wrap_u64]; omega
     rcases hck with ⟨rfl,hst⟩ | ⟨rfl,hx0,hst0,hst1⟩
     ·clear hst
      rcases hm with rfl | rfl | rfl
      ·skip
       have hone : topOne T 0 most (c,p,l) v = (c + 1,p + 1,l ++ [⟨0,y,0,1,100 + (p + 1),stt,n⟩]):=HO4.out 0 most c p l rfl HC.out rfl
       have hmr : (⟨0,y,0,1,100 + (p + 1),stt,n⟩ : CM).Right:=((HOP.out hone).right _ (List.mem_append_right _ List.mem_cons_self)).1
       have HONE:=zIn hone
       clear hone
       have HHs:=zIn (HHb.out.more (A:=tObj w.heap.size w3.heap.size [i64 (0),i64 (y),i64 (0),i64 (1),.int .u64 (100 + (p + 1)),i64 (stt),i64 (n)]) (zAA (Below.refl _ _) ((⟨0,y,0,1,100 + (p + 1),stt,n⟩ : CM).obj 39)) (zAO _ _ _) ⟨IsObj.made w3 [i64 (0),i64 (y),i64 (0),i64 (1),.int .u64 (100 + (p + 1)),i64 (stt),i64 (n)] 39,HHb.out.size⟩ (fun q hq=>by cases hq; exact Nat.le_refl _))
       clear HHb
       have HMR:=zIn hmr
       clear hmr
       go_wp2_with fail
       refine (zAU ⟨0,y,0,1,100 + (p + 1),stt,n⟩ _).mono ?_
       rintro r w5 ⟨rfl,hb5⟩
       rw [decide_eq_true HMR.out]
       have HH5:=zIn (HHs.out.later hb5)
       clear HHs hb5 d0 hcbl
       have hsb:=(HH5.out.has 2 _ rfl : IsObj w5 sb [i64 T,i64 s,i64 so,i64 1,.slice A1 l.length cp1] ∧ _).1
       have hmo:=(HH5.out.has 4 _ rfl : IsObj w5 w3.heap.size [i64 (0),i64 (y),i64 (0),i64 (1),.int .u64 (100 + (p + 1)),i64 (stt),i64 (n)] ∧ _).1
       have s4:=hsb.at' 4 _ rfl
       have c0:=hmo.at' 0 _ rfl
       have c1:=hmo.at' 1 _ rfl
       have c2:=hmo.at' 2 _ rfl
       have c3:=hmo.at' 3 _ rfl
       have c4:=hmo.at' 4 _ rfl
       have c5:=hmo.at' 5 _ rfl
       have c6:=hmo.at' 6 _ rfl
       clear hsb hmo
       have HL5:=zIn (HH5.out.later (zAA (Below.refl _ _) ((⟨0,y,0,1,100 + (p + 1),stt,n⟩ : CM).obj 39)))
       go_wp2_with (at_builtin; go_loud (refine zAJ rfl _ _ 27 rfl w.heap.size 39 _ 7 56 zBA (.slice A1 l.length cp1) l.length (flatM l) rfl (HL5.out.has 3 _ rfl) (some ⟨_,0,none⟩) 1 1 (⟨0,y,0,1,100 + (p + 1),stt,n⟩ : CM).list rfl (zA7 _ _ ⟨0,y,0,1,100 + (p + 1),stt,n⟩ (by simp)) (by unfold maxLen; omega) (by omega) HL5.out.size ?_); intro v' w8 hG; go_loud (obtain ⟨A3,cp3,rfl⟩:=zAK hG.own; have HH8:=zIn (HL5.out.append 3 rfl rfl hG); have hs8:=(HH8.out.has 2 _ rfl : IsObj w8 sb [i64 T,i64 s,i64 so,i64 1,.slice A1 l.length cp1] ∧ _).1; have z4:=hs8.at' 4 _ rfl; have y4:=hs8.fz 4; clear hs8 hG s4 c0 c1 c2 c3 c4 c5 c6))
       have HH9:=zIn ((HH8.out.cdSet 2 rfl 4 (.slice A3 (l.length + 1) cp3)).less (m:=[_]) (l:=[_,_,_,_]))
       clear HH8 HH5 HL5 z4 y4
       go_roundw
       case rel =>
        refine ⟨i + 1,c + 1,p + 1,_,A3,cp3,by omega,rfl,rfl,by go_num,zIn (HTK.out.trans HONE.out),zIn ?_⟩
        have h:=HH9.out
        rw [List.length_append,List.length_singleton,zAR,show flatM [(⟨0,y,0,1,100 + (p + 1),stt,n⟩ : CM)] = (⟨0,y,0,1,100 + (p + 1),stt,n⟩ : CM).list by rw [flatM,flatM,List.append_nil]]
        exact h
       case measure=>first | omega | (simp [RowKit.intOf]; done) | (simp [RowKit.intOf]; omega)
      ·skip
       have hone : topOne T 1 most (c,p,l) v = (c + 1,p + 1,l ++ [⟨0,y,0,1,100 + (p + 1),stt,n⟩]):=HO4.out 1 most c p l rfl HC.out rfl
       have hmr : (⟨0,y,0,1,100 + (p + 1),stt,n⟩ : CM).Right:=((HOP.out hone).right _ (List.mem_append_right _ List.mem_cons_self)).1
       have HONE:=zIn hone
       clear hone
       have HHs:=zIn (HHb.out.more (A:=tObj w.heap.size w3.heap.size [i64 (0),i64 (y),i64 (0),i64 (1),.int .u64 (100 + (p + 1)),i64 (stt),i64 (n)]) (zAA (Below.refl _ _) ((⟨0,y,0,1,100 + (p + 1),stt,n⟩ : CM).obj 39)) (zAO _ _ _) ⟨IsObj.made w3 [i64 (0),i64 (y),i64 (0),i64 (1),.int .u64 (100 + (p + 1)),i64 (stt),i64 (n)] 39,HHb.out.size⟩ (fun q hq=>by cases hq; exact Nat.le_refl _))
       clear HHb
       have HMR:=zIn hmr
       clear hmr
       go_wp2_with fail
       refine (zAU ⟨0,y,0,1,100 + (p + 1),stt,n⟩ _).mono ?_
       rintro r w5 ⟨rfl,hb5⟩
       rw [decide_eq_true HMR.out]
       have HH5:=zIn (HHs.out.later hb5)
       clear HHs hb5 d0 hcbl
       have hsb:=(HH5.out.has 2 _ rfl : IsObj w5 sb [i64 T,i64 s,i64 so,i64 1,.slice A1 l.length cp1] ∧ _).1
       have hmo:=(HH5.out.has 4 _ rfl : IsObj w5 w3.heap.size [i64 (0),i64 (y),i64 (0),i64 (1),.int .u64 (100 + (p + 1)),i64 (stt),i64 (n)] ∧ _).1
       have s4:=hsb.at' 4 _ rfl
       have c0:=hmo.at' 0 _ rfl
       have c1:=hmo.at' 1 _ rfl
       have c2:=hmo.at' 2 _ rfl
       have c3:=hmo.at' 3 _ rfl
       have c4:=hmo.at' 4 _ rfl
       have c5:=hmo.at' 5 _ rfl
       have c6:=hmo.at' 6 _ rfl
       clear hsb hmo
       have HL5:=zIn (HH5.out.later (zAA (Below.refl _ _) ((⟨0,y,0,1,100 + (p + 1),stt,n⟩ : CM).obj 39)))
       go_wp2_with (at_builtin; go_loud (refine zAJ rfl _ _ 27 rfl w.heap.size 39 _ 7 56 zBA (.slice A1 l.length cp1) l.length (flatM l) rfl (HL5.out.has 3 _ rfl) (some ⟨_,0,none⟩) 1 1 (⟨0,y,0,1,100 + (p + 1),stt,n⟩ : CM).list rfl (zA7 _ _ ⟨0,y,0,1,100 + (p + 1),stt,n⟩ (by simp)) (by unfold maxLen; omega) (by omega) HL5.out.size ?_); intro v' w8 hG; go_loud (obtain ⟨A3,cp3,rfl⟩:=zAK hG.own; have HH8:=zIn (HL5.out.append 3 rfl rfl hG); have hs8:=(HH8.out.has 2 _ rfl : IsObj w8 sb [i64 T,i64 s,i64 so,i64 1,.slice A1 l.length cp1] ∧ _).1; have z4:=hs8.at' 4 _ rfl; have y4:=hs8.fz 4; clear hs8 hG s4 c0 c1 c2 c3 c4 c5 c6))
       have HH9:=zIn ((HH8.out.cdSet 2 rfl 4 (.slice A3 (l.length + 1) cp3)).less (m:=[_]) (l:=[_,_,_,_]))
       clear HH8 HH5 HL5 z4 y4
       go_roundw
       case rel =>
        refine ⟨i + 1,c + 1,p + 1,_,A3,cp3,by omega,rfl,rfl,by go_num,zIn (HTK.out.trans HONE.out),zIn ?_⟩
        have h:=HH9.out
        rw [List.length_append,List.length_singleton,zAR,show flatM [(⟨0,y,0,1,100 + (p + 1),stt,n⟩ : CM)] = (⟨0,y,0,1,100 + (p + 1),stt,n⟩ : CM).list by rw [flatM,flatM,List.append_nil]]
        exact h
       case measure=>first | omega | (simp [RowKit.intOf]; done) | (simp [RowKit.intOf]; omega)
      ·skip
       have hone : topOne T 2 most (c,p,l) v = (c + 1,p + 1,l ++ [⟨0,y,0,ce,100 + (p + 1),stt,n⟩]):=HO4.out 2 most c p l rfl HC.out rfl
       have hmr : (⟨0,y,0,ce,100 + (p + 1),stt,n⟩ : CM).Right:=((HOP.out hone).right _ (List.mem_append_right _ List.mem_cons_self)).1
       have HONE:=zIn hone
       clear hone
       have HHs:=zIn (HHb.out.more (A:=tObj w.heap.size w3.heap.size [i64 (0),i64 (y),i64 (0),i64 (ce),.int .u64 (100 + (p + 1)),i64 (stt),i64 (n)]) (zAA (Below.refl _ _) ((⟨0,y,0,ce,100 + (p + 1),stt,n⟩ : CM).obj 39)) (zAO _ _ _) ⟨IsObj.made w3 [i64 (0),i64 (y),i64 (0),i64 (ce),.int .u64 (100 + (p + 1)),i64 (stt),i64 (n)] 39,HHb.out.size⟩ (fun q hq=>by cases hq; exact Nat.le_refl _))
       clear HHb
       have HMR:=zIn hmr
       clear hmr
       go_wp2_with fail
       refine (zAU ⟨0,y,0,ce,100 + (p + 1),stt,n⟩ _).mono ?_
       rintro r w5 ⟨rfl,hb5⟩
       rw [decide_eq_true HMR.out]
       have HH5:=zIn (HHs.out.later hb5)
       clear HHs hb5 d0 hcbl
       have hsb:=(HH5.out.has 2 _ rfl : IsObj w5 sb [i64 T,i64 s,i64 so,i64 1,.slice A1 l.length cp1] ∧ _).1
       have hmo:=(HH5.out.has 4 _ rfl : IsObj w5 w3.heap.size [i64 (0),i64 (y),i64 (0),i64 (ce),.int .u64 (100 + (p + 1)),i64 (stt),i64 (n)] ∧ _).1
       have s4:=hsb.at' 4 _ rfl
       have c0:=hmo.at' 0 _ rfl
       have c1:=hmo.at' 1 _ rfl
       have c2:=hmo.at' 2 _ rfl
       have c3:=hmo.at' 3 _ rfl
       have c4:=hmo.at' 4 _ rfl
       have c5:=hmo.at' 5 _ rfl
       have c6:=hmo.at' 6 _ rfl
       clear hsb hmo
       have HL5:=zIn (HH5.out.later (zAA (Below.refl _ _) ((⟨0,y,0,ce,100 + (p + 1),stt,n⟩ : CM).obj 39)))
       go_wp2_with (at_builtin; go_loud (refine zAJ rfl _ _ 27 rfl w.heap.size 39 _ 7 56 zBA (.slice A1 l.length cp1) l.length (flatM l) rfl (HL5.out.has 3 _ rfl) (some ⟨_,0,none⟩) 1 1 (⟨0,y,0,ce,100 + (p + 1),stt,n⟩ : CM).list rfl (zA7 _ _ ⟨0,y,0,ce,100 + (p + 1),stt,n⟩ (by simp)) (by unfold maxLen; omega) (by omega) HL5.out.size ?_); intro v' w8 hG; go_loud (obtain ⟨A3,cp3,rfl⟩:=zAK hG.own; have HH8:=zIn (HL5.out.append 3 rfl rfl hG); have hs8:=(HH8.out.has 2 _ rfl : IsObj w8 sb [i64 T,i64 s,i64 so,i64 1,.slice A1 l.length cp1] ∧ _).1; have z4:=hs8.at' 4 _ rfl; have y4:=hs8.fz 4; clear hs8 hG s4 c0 c1 c2 c3 c4 c5 c6))
       have HH9:=zIn ((HH8.out.cdSet 2 rfl 4 (.slice A3 (l.length + 1) cp3)).less (m:=[_]) (l:=[_,_,_,_]))
       clear HH8 HH5 HL5 z4 y4
       go_roundw
       case rel =>
        refine ⟨i + 1,c + 1,p + 1,_,A3,cp3,by omega,rfl,rfl,by go_num,zIn (HTK.out.trans HONE.out),zIn ?_⟩
        have h:=HH9.out
        rw [List.length_append,List.length_singleton,zAR,show flatM [(⟨0,y,0,ce,100 + (p + 1),stt,n⟩ : CM)] = (⟨0,y,0,ce,100 + (p + 1),stt,n⟩ : CM).list by rw [flatM,flatM,List.append_nil]]
        exact h
       case measure=>first | omega | (simp [RowKit.intOf]; done) | (simp [RowKit.intOf]; omega)
     ·clear hx0 hst0 hst1
      rcases hm with rfl | rfl | rfl
      ·skip
       have hone : topOne T 0 most (c,p,l) v = (c + 1,p,l ++ [⟨0,y,1,1,x,stt,n⟩]):=HO5.out 0 most c p l rfl HC.out (by decide)
       have hmr : (⟨0,y,1,1,x,stt,n⟩ : CM).Right:=((HOP.out hone).right _ (List.mem_append_right _ List.mem_cons_self)).1
       have HONE:=zIn hone
       clear hone
       have HHs:=zIn (HHb.out.more (A:=tObj w.heap.size w3.heap.size [i64 (0),i64 (y),i64 (1),i64 (1),.int .u64 (x),i64 (stt),i64 (n)]) (zAA (Below.refl _ _) ((⟨0,y,1,1,x,stt,n⟩ : CM).obj 39)) (zAO _ _ _) ⟨IsObj.made w3 [i64 (0),i64 (y),i64 (1),i64 (1),.int .u64 (x),i64 (stt),i64 (n)] 39,HHb.out.size⟩ (fun q hq=>by cases hq; exact Nat.le_refl _))
       clear HHb
       have HMR:=zIn hmr
       clear hmr
       go_wp2_with fail
       refine (zAU ⟨0,y,1,1,x,stt,n⟩ _).mono ?_
       rintro r w5 ⟨rfl,hb5⟩
       rw [decide_eq_true HMR.out]
       have HH5:=zIn (HHs.out.later hb5)
       clear HHs hb5 d0 hcbl
       have hsb:=(HH5.out.has 2 _ rfl : IsObj w5 sb [i64 T,i64 s,i64 so,i64 1,.slice A1 l.length cp1] ∧ _).1
       have hmo:=(HH5.out.has 4 _ rfl : IsObj w5 w3.heap.size [i64 (0),i64 (y),i64 (1),i64 (1),.int .u64 (x),i64 (stt),i64 (n)] ∧ _).1
       have s4:=hsb.at' 4 _ rfl
       have c0:=hmo.at' 0 _ rfl
       have c1:=hmo.at' 1 _ rfl
       have c2:=hmo.at' 2 _ rfl
       have c3:=hmo.at' 3 _ rfl
       have c4:=hmo.at' 4 _ rfl
       have c5:=hmo.at' 5 _ rfl
       have c6:=hmo.at' 6 _ rfl
       clear hsb hmo
       have HL5:=zIn (HH5.out.later (zAA (Below.refl _ _) ((⟨0,y,1,1,x,stt,n⟩ : CM).obj 39)))
       go_wp2_with (at_builtin; go_loud (refine zAJ rfl _ _ 27 rfl w.heap.size 39 _ 7 56 zBA (.slice A1 l.length cp1) l.length (flatM l) rfl (HL5.out.has 3 _ rfl) (some ⟨_,0,none⟩) 1 1 (⟨0,y,1,1,x,stt,n⟩ : CM).list rfl (zA7 _ _ ⟨0,y,1,1,x,stt,n⟩ (by simp)) (by unfold maxLen; omega) (by omega) HL5.out.size ?_); intro v' w8 hG; go_loud (obtain ⟨A3,cp3,rfl⟩:=zAK hG.own; have HH8:=zIn (HL5.out.append 3 rfl rfl hG); have hs8:=(HH8.out.has 2 _ rfl : IsObj w8 sb [i64 T,i64 s,i64 so,i64 1,.slice A1 l.length cp1] ∧ _).1; have z4:=hs8.at' 4 _ rfl; have y4:=hs8.fz 4; clear hs8 hG s4 c0 c1 c2 c3 c4 c5 c6))
       have HH9:=zIn ((HH8.out.cdSet 2 rfl 4 (.slice A3 (l.length + 1) cp3)).less (m:=[_]) (l:=[_,_,_,_]))
       clear HH8 HH5 HL5 z4 y4
       go_roundw
       case rel =>
        refine ⟨i + 1,c + 1,p,_,A3,cp3,by omega,rfl,rfl,by go_num,zIn (HTK.out.trans HONE.out),zIn ?_⟩
        have h:=HH9.out
        rw [List.length_append,List.length_singleton,zAR,show flatM [(⟨0,y,1,1,x,stt,n⟩ : CM)] = (⟨0,y,1,1,x,stt,n⟩ : CM).list by rw [flatM,flatM,List.append_nil]]
        exact h
       case measure=>first | omega | (simp [RowKit.intOf]; done) | (simp [RowKit.intOf]; omega)
      ·skip
       have hone : topOne T 1 most (c,p,l) v = (c + 1,p,l ++ [⟨0,y,1,0,x,stt,n⟩]):=HO5.out 1 most c p l rfl HC.out (by decide)
       have hmr : (⟨0,y,1,0,x,stt,n⟩ : CM).Right:=((HOP.out hone).right _ (List.mem_append_right _ List.mem_cons_self)).1
       have HONE:=zIn hone
       clear hone
       have HHs:=zIn (HHb.out.more (A:=tObj w.heap.size w3.heap.size [i64 (0),i64 (y),i64 (1),i64 (0),.int .u64 (x),i64 (stt),i64 (n)]) (zAA (Below.refl _ _) ((⟨0,y,1,0,x,stt,n⟩ : CM).obj 39)) (zAO _ _ _) ⟨IsObj.made w3 [i64 (0),i64 (y),i64 (1),i64 (0),.int .u64 (x),i64 (stt),i64 (n)] 39,HHb.out.size⟩ (fun q hq=>by cases hq; exact Nat.le_refl _))
       clear HHb
       have HMR:=zIn hmr
       clear hmr
       go_wp2_with fail
       refine (zAU ⟨0,y,1,0,x,stt,n⟩ _).mono ?_
       rintro r w5 ⟨rfl,hb5⟩
       rw [decide_eq_true HMR.out]
       have HH5:=zIn (HHs.out.later hb5)
       clear HHs hb5 d0 hcbl
       have hsb:=(HH5.out.has 2 _ rfl : IsObj w5 sb [i64 T,i64 s,i64 so,i64 1,.slice A1 l.length cp1] ∧ _).1
       have hmo:=(HH5.out.has 4 _ rfl : IsObj w5 w3.heap.size [i64 (0),i64 (y),i64 (1),i64 (0),.int .u64 (x),i64 (stt),i64 (n)] ∧ _).1
       have s4:=hsb.at' 4 _ rfl
       have c0:=hmo.at' 0 _ rfl
       have c1:=hmo.at' 1 _ rfl
       have c2:=hmo.at' 2 _ rfl
       have c3:=hmo.at' 3 _ rfl
       have c4:=hmo.at' 4 _ rfl
       have c5:=hmo.at' 5 _ rfl
       have c6:=hmo.at' 6 _ rfl
       clear hsb hmo
       have HL5:=zIn (HH5.out.later (zAA (Below.refl _ _) ((⟨0,y,1,0,x,stt,n⟩ : CM).obj 39)))
       go_wp2_with (at_builtin; go_loud (refine zAJ rfl _ _ 27 rfl w.heap.size 39 _ 7 56 zBA (.slice A1 l.length cp1) l.length (flatM l) rfl (HL5.out.has 3 _ rfl) (some ⟨_,0,none⟩) 1 1 (⟨0,y,1,0,x,stt,n⟩ : CM).list rfl (zA7 _ _ ⟨0,y,1,0,x,stt,n⟩ (by simp)) (by unfold maxLen; omega) (by omega) HL5.out.size ?_); intro v' w8 hG; go_loud (obtain ⟨A3,cp3,rfl⟩:=zAK hG.own; have HH8:=zIn (HL5.out.append 3 rfl rfl hG); have hs8:=(HH8.out.has 2 _ rfl : IsObj w8 sb [i64 T,i64 s,i64 so,i64 1,.slice A1 l.length cp1] ∧ _).1; have z4:=hs8.at' 4 _ rfl; have y4:=hs8.fz 4; clear hs8 hG s4 c0 c1 c2 c3 c4 c5 c6))
       have HH9:=zIn ((HH8.out.cdSet 2 rfl 4 (.slice A3 (l.length + 1) cp3)).less (m:=[_]) (l:=[_,_,_,_]))
       clear HH8 HH5 HL5 z4 y4
       go_roundw
       case rel =>
        refine ⟨i + 1,c + 1,p,_,A3,cp3,by omega,rfl,rfl,by go_num,zIn (HTK.out.trans HONE.out),zIn ?_⟩
        have h:=HH9.out
        rw [List.length_append,List.length_singleton,zAR,show flatM [(⟨0,y,1,0,x,stt,n⟩ : CM)] = (⟨0,y,1,0,x,stt,n⟩ : CM).list by rw [flatM,flatM,List.append_nil]]
        exact h
       case measure=>first | omega | (simp [RowKit.intOf]; done) | (simp [RowKit.intOf]; omega)
      ·skip
       have hone : topOne T 2 most (c,p,l) v = (c + 1,p,l ++ [⟨0,y,1,ce,x,stt,n⟩]):=HO5.out 2 most c p l rfl HC.out (by decide)
       have hmr : (⟨0,y,1,ce,x,stt,n⟩ : CM).Right:=((HOP.out hone).right _ (List.mem_append_right _ List.mem_cons_self)).1
       have HONE:=zIn hone
       clear hone
       have HHs:=zIn (HHb.out.more (A:=tObj w.heap.size w3.heap.size [i64 (0),i64 (y),i64 (1),i64 (ce),.int .u64 (x),i64 (stt),i64 (n)]) (zAA (Below.refl _ _) ((⟨0,y,1,ce,x,stt,n⟩ : CM).obj 39)) (zAO _ _ _) ⟨IsObj.made w3 [i64 (0),i64 (y),i64 (1),i64 (ce),.int .u64 (x),i64 (stt),i64 (n)] 39,HHb.out.size⟩ (fun q hq=>by cases hq; exact Nat.le_refl _))
       clear HHb
       have HMR:=zIn hmr
       clear hmr
       go_wp2_with fail
       refine (zAU ⟨0,y,1,ce,x,stt,n⟩ _).mono ?_
       rintro r w5 ⟨rfl,hb5⟩
       rw [decide_eq_true HMR.out]
       have HH5:=zIn (HHs.out.later hb5)
       clear HHs hb5 d0 hcbl
       have hsb:=(HH5.out.has 2 _ rfl : IsObj w5 sb [i64 T,i64 s,i64 so,i64 1,.slice A1 l.length cp1] ∧ _).1
       have hmo:=(HH5.out.has 4 _ rfl : IsObj w5 w3.heap.size [i64 (0),i64 (y),i64 (1),i64 (ce),.int .u64 (x),i64 (stt),i64 (n)] ∧ _).1
       have s4:=hsb.at' 4 _ rfl
       have c0:=hmo.at' 0 _ rfl
       have c1:=hmo.at' 1 _ rfl
       have c2:=hmo.at' 2 _ rfl
       have c3:=hmo.at' 3 _ rfl
       have c4:=hmo.at' 4 _ rfl
       have c5:=hmo.at' 5 _ rfl
       have c6:=hmo.at' 6 _ rfl
       clear hsb hmo
       have HL5:=zIn (HH5.out.later (zAA (Below.refl _ _) ((⟨0,y,1,ce,x,stt,n⟩ : CM).obj 39)))
       go_wp2_with (at_builtin; go_loud (refine zAJ rfl _ _ 27 rfl w.heap.size 39 _ 7 56 zBA (.slice A1 l.length cp1) l.length (flatM l) rfl (HL5.out.has 3 _ rfl) (some ⟨_,0,none⟩) 1 1 (⟨0,y,1,ce,x,stt,n⟩ : CM).list rfl (zA7 _ _ ⟨0,y,1,ce,x,stt,n⟩ (by simp)) (by unfold maxLen; omega) (by omega) HL5.out.size ?_); intro v' w8 hG; go_loud (obtain ⟨A3,cp3,rfl⟩:=zAK hG.own; have HH8:=zIn (HL5.out.append 3 rfl rfl hG); have hs8:=(HH8.out.has 2 _ rfl : IsObj w8 sb [i64 T,i64 s,i64 so,i64 1,.slice A1 l.length cp1] ∧ _).1; have z4:=hs8.at' 4 _ rfl; have y4:=hs8.fz 4; clear hs8 hG s4 c0 c1 c2 c3 c4 c5 c6))
       have HH9:=zIn ((HH8.out.cdSet 2 rfl 4 (.slice A3 (l.length + 1) cp3)).less (m:=[_]) (l:=[_,_,_,_]))
       clear HH8 HH5 HL5 z4 y4
       go_roundw
       case rel =>
        refine ⟨i + 1,c + 1,p,_,A3,cp3,by omega,rfl,rfl,by go_num,zIn (HTK.out.trans HONE.out),zIn ?_⟩
        have h:=HH9.out
        rw [List.length_append,List.length_singleton,zAR,show flatM [(⟨0,y,1,ce,x,stt,n⟩ : CM)] = (⟨0,y,1,ce,x,stt,n⟩ : CM).list by rw [flatM,flatM,List.append_nil]]
        exact h
       case measure=>first | omega | (simp [RowKit.intOf]; done) | (simp [RowKit.intOf]; omega)
   ·rcases hbr hk0 with ⟨hk1,hq⟩ | ⟨hk2,hq⟩
    ·have w0 : 0 ≤ who:=by have:=congrArg CM.who hq; simp only at this; omega
     clear hb0 hbr hq hk0
     subst hk1
     have hrem : who.tmod T = who % T:=Int.tmod_eq_emod_of_nonneg w0
     obtain ⟨y,hy⟩ : ∃ y,who % T = y:=⟨_,rfl⟩
     have hy0 : 0 ≤ y:=by rw [← hy]; exact Int.emod_nonneg _ (by omega)
     have hy1 : y < T:=by rw [← hy]; exact Int.emod_lt_of_pos _ (by omega)
     rw [hy] at hrem HO1 HO4 HO5
     clear hy
     have hTn : ¬ T = 0:=by omega
     have hone : topOne T mode most (c,p,l) v = (c,p,l ++ [⟨1,y,ck,ce,x,stt,n⟩]):=HO1.out mode most c p l rfl
     have hmr : (⟨1,y,ck,ce,x,stt,n⟩ : CM).Right:=((HOP.out hone).right _ (List.mem_append_right _ List.mem_cons_self)).1
     have HONE:=zIn hone
     clear hone
     have HHs:=zIn (HHb.out.more (A:=tObj w.heap.size w3.heap.size [i64 (1),i64 (y),i64 (ck),i64 (ce),.int .u64 (x),i64 (stt),i64 (n)]) (zAA (Below.refl _ _) ((⟨1,y,ck,ce,x,stt,n⟩ : CM).obj 39)) (zAO _ _ _) ⟨IsObj.made w3 [i64 (1),i64 (y),i64 (ck),i64 (ce),.int .u64 (x),i64 (stt),i64 (n)] 39,HHb.out.size⟩ (fun q hq=>by cases hq; exact Nat.le_refl _))
     clear HHb
     have HMR:=zIn hmr
     clear hmr
     go_wp2_with fail
     refine (zAU ⟨1,y,ck,ce,x,stt,n⟩ _).mono ?_
     rintro r w5 ⟨rfl,hb5⟩
     rw [decide_eq_true HMR.out]
     have HH5:=zIn (HHs.out.later hb5)
     clear HHs hb5 d0 hcbl
     have hsb:=(HH5.out.has 2 _ rfl : IsObj w5 sb [i64 T,i64 s,i64 so,i64 1,.slice A1 l.length cp1] ∧ _).1
     have hmo:=(HH5.out.has 4 _ rfl : IsObj w5 w3.heap.size [i64 (1),i64 (y),i64 (ck),i64 (ce),.int .u64 (x),i64 (stt),i64 (n)] ∧ _).1
     have s4:=hsb.at' 4 _ rfl
     have c0:=hmo.at' 0 _ rfl
     have c1:=hmo.at' 1 _ rfl
     have c2:=hmo.at' 2 _ rfl
     have c3:=hmo.at' 3 _ rfl
     have c4:=hmo.at' 4 _ rfl
     have c5:=hmo.at' 5 _ rfl
     have c6:=hmo.at' 6 _ rfl
     clear hsb hmo
     have HL5:=zIn (HH5.out.later (zAA (Below.refl _ _) ((⟨1,y,ck,ce,x,stt,n⟩ : CM).obj 39)))
     go_wp2_with (at_builtin; go_loud (refine zAJ rfl _ _ 27 rfl w.heap.size 39 _ 7 56 zBA (.slice A1 l.length cp1) l.length (flatM l) rfl (HL5.out.has 3 _ rfl) (some ⟨_,0,none⟩) 1 1 (⟨1,y,ck,ce,x,stt,n⟩ : CM).list rfl (zA7 _ _ ⟨1,y,ck,ce,x,stt,n⟩ (by simp)) (by unfold maxLen; omega) (by omega) HL5.out.size ?_); intro v' w8 hG; go_loud (obtain ⟨A3,cp3,rfl⟩:=zAK hG.own; have HH8:=zIn (HL5.out.append 3 rfl rfl hG); have hs8:=(HH8.out.has 2 _ rfl : IsObj w8 sb [i64 T,i64 s,i64 so,i64 1,.slice A1 l.length cp1] ∧ _).1; have z4:=hs8.at' 4 _ rfl; have y4:=hs8.fz 4; clear hs8 hG s4 c0 c1 c2 c3 c4 c5 c6))
     have HH9:=zIn ((HH8.out.cdSet 2 rfl 4 (.slice A3 (l.length + 1) cp3)).less (m:=[_]) (l:=[_,_,_,_]))
     clear HH8 HH5 HL5 z4 y4
     go_roundw
     case rel =>
      refine ⟨i + 1,c,p,_,A3,cp3,by omega,rfl,rfl,by go_num,zIn (HTK.out.trans HONE.out),zIn ?_⟩
      have h:=HH9.out
      rw [List.length_append,List.length_singleton,zAR,show flatM [(⟨1,y,ck,ce,x,stt,n⟩ : CM)] = (⟨1,y,ck,ce,x,stt,n⟩ : CM).list by rw [flatM,flatM,List.append_nil]]
      exact h
     case measure=>first | omega | (simp [RowKit.intOf]; done) | (simp [RowKit.intOf]; omega)
    ·clear hb0 hbr hq hk0
     subst hk2
     have hone : topOne T mode most (c,p,l) v = (c,p,l ++ [⟨2,who,ck,ce,x,stt,n⟩]):=HO2.out mode most c p l rfl
     have hmr : (⟨2,who,ck,ce,x,stt,n⟩ : CM).Right:=((HOP.out hone).right _ (List.mem_append_right _ List.mem_cons_self)).1
     have HONE:=zIn hone
     clear hone
     have HHs:=zIn (HHb.out.more (A:=tObj w.heap.size w3.heap.size [i64 (2),i64 (who),i64 (ck),i64 (ce),.int .u64 (x),i64 (stt),i64 (n)]) (zAA (Below.refl _ _) ((⟨2,who,ck,ce,x,stt,n⟩ : CM).obj 39)) (zAO _ _ _) ⟨IsObj.made w3 [i64 (2),i64 (who),i64 (ck),i64 (ce),.int .u64 (x),i64 (stt),i64 (n)] 39,HHb.out.size⟩ (fun q hq=>by cases hq; exact Nat.le_refl _))
     clear HHb
     have HMR:=zIn hmr
     clear hmr
     go_wp2_with fail
     refine (zAU ⟨2,who,ck,ce,x,stt,n⟩ _).mono ?_
     rintro r w5 ⟨rfl,hb5⟩
     rw [decide_eq_true HMR.out]
     have HH5:=zIn (HHs.out.later hb5)
     clear HHs hb5 d0 hcbl
     have hsb:=(HH5.out.has 2 _ rfl : IsObj w5 sb [i64 T,i64 s,i64 so,i64 1,.slice A1 l.length cp1] ∧ _).1
     have hmo:=(HH5.out.has 4 _ rfl : IsObj w5 w3.heap.size [i64 (2),i64 (who),i64 (ck),i64 (ce),.int .u64 (x),i64 (stt),i64 (n)] ∧ _).1
     have s4:=hsb.at' 4 _ rfl
     have c0:=hmo.at' 0 _ rfl
     have c1:=hmo.at' 1 _ rfl
     have c2:=hmo.at' 2 _ rfl
     have c3:=hmo.at' 3 _ rfl
     have c4:=hmo.at' 4 _ rfl
     have c5:=hmo.at' 5 _ rfl
     have c6:=hmo.at' 6 _ rfl
     clear hsb hmo
     have HL5:=zIn (HH5.out.later (zAA (Below.refl _ _) ((⟨2,who,ck,ce,x,stt,n⟩ : CM).obj 39)))
     go_wp2_with (at_builtin; go_loud (refine zAJ rfl _ _ 27 rfl w.heap.size 39 _ 7 56 zBA (.slice A1 l.length cp1) l.length (flatM l) rfl (HL5.out.has 3 _ rfl) (some ⟨_,0,none⟩) 1 1 (⟨2,who,ck,ce,x,stt,n⟩ : CM).list rfl (zA7 _ _ ⟨2,who,ck,ce,x,stt,n⟩ (by simp)) (by unfold maxLen; omega) (by omega) HL5.out.size ?_); intro v' w8 hG; go_loud (obtain ⟨A3,cp3,rfl⟩:=zAK hG.own; have HH8:=zIn (HL5.out.append 3 rfl rfl hG); have hs8:=(HH8.out.has 2 _ rfl : IsObj w8 sb [i64 T,i64 s,i64 so,i64 1,.slice A1 l.length cp1] ∧ _).1; have z4:=hs8.at' 4 _ rfl; have y4:=hs8.fz 4; clear hs8 hG s4 c0 c1 c2 c3 c4 c5 c6))
     have HH9:=zIn ((HH8.out.cdSet 2 rfl 4 (.slice A3 (l.length + 1) cp3)).less (m:=[_]) (l:=[_,_,_,_]))
     clear HH8 HH5 HL5 z4 y4
     go_roundw
     case rel =>
      refine ⟨i + 1,c,p,_,A3,cp3,by omega,rfl,rfl,by go_num,zIn (HTK.out.trans HONE.out),zIn ?_⟩
      have h:=HH9.out
      rw [List.length_append,List.length_singleton,zAR,show flatM [(⟨2,who,ck,ce,x,stt,n⟩ : CM)] = (⟨2,who,ck,ce,x,stt,n⟩ : CM).list by rw [flatM,flatM,List.append_nil]]
      exact h
     case measure=>first | omega | (simp [RowKit.intOf]; done) | (simp [RowKit.intOf]; omega)
  ·obtain rfl : i = V.length:=by omega
   have hnn : ¬ (V.length : Int) < (V.length : Int):=by omega
   have hst:=HST.out
   rw [List.take_length] at hst
   have HST2:=zIn hst
   have hsb:=(HH.out.has 2 _ rfl : IsObj wr sb [i64 T,i64 s,i64 so,i64 1,.slice A1 l.length cp1] ∧ _).1
   have hro:=(HH.out.has 0 _ rfl : IsObj wr w.heap.size [i64 0,i64 0,i64 0,i64 0,.slice none 0 0] ∧ _).1
   have s0:=hsb.at' 0 _ rfl
   have s1:=hsb.at' 1 _ rfl
   have s2:=hsb.at' 2 _ rfl
   have s3:=hsb.at' 3 _ rfl
   have s4:=hsb.at' 4 _ rfl
   have r0:=hro.at' 0 _ rfl
   have r1:=hro.at' 1 _ rfl
   have r2:=hro.at' 2 _ rfl
   have r3:=hro.at' 3 _ rfl
   have r4:=hro.at' 4 _ rfl
   have z0:=hro.fz 0
   have z1:=hro.fz 1
   have z2:=hro.fz 2
   have z3:=hro.fz 3
   have z4:=hro.fz 4
   have HHz:=zIn (HH.out.cd5 rfl (i64 T) (i64 s) (i64 so) (i64 1) (.slice A1 l.length cp1))
   have hzz:=(HHz.out.has 0 _ rfl : IsObj _ w.heap.size [i64 T,i64 s,i64 so,i64 1,.slice A1 l.length cp1] ∧ _).1
   have y0:=hzz.at' 0 _ rfl
   have y1:=hzz.at' 1 _ rfl
   have y2:=hzz.at' 2 _ rfl
   have y3:=hzz.at' 3 _ rfl
   have y4:=hzz.at' 4 _ rfl
   clear hsb hro hst HST HH hi hil hzz
   go_wp2_with fail
   exact bodyPost_ret (v:=.tuple #[scV T s so 1 (.slice A1 l.length cp1),.bool true]) (by simp [results,Tryz.results32,go_sem,y0,y1,y2,y3,y4]) rfl (by
    rw [HST2.out]
    exact ⟨A1,cp1,rfl,HHz.out.below,HHz.out.has 3 _ rfl⟩)
end
section
open Go.RowKit
def WSame (N : Nat) (C C' : List Int) : Prop:=∀ j,j < N → C'.getD j 0 = C.getD j 0
theorem WSame.refl (N : Nat) (C : List Int) : WSame N C C:=fun _ _=>rfl
theorem WSame.set {N i : Nat} (C : List Int) (x : Int) (h : N ≤ i) : WSame N C (C.set i x):=fun j hj=>zAH x (by omega)
section
variable {k : Sn} {C C' : List Int} {N st r P B : Nat} {last : Int}
theorem QInv.same (h : QInv k C N st r P B last) (e : WSame N C C') : QInv k C' N st r P B last :=
 have hN : 0 < N:=by have:=h.at'.r1; omega
 ⟨h.at',h.ph,fun hl q hq=>(h.a hl q hq).trans (e _ (Nat.mod_lt _ hN)).symm,fun hP hl=>⟨fun j hj=>((h.b hP hl).1 j hj).trans (e j hj).symm,(h.b hP hl).2⟩,h.c1,h.c2,h.c3,h.l⟩
theorem QInv.sure (h : QInv k C N st r P B last) (hr : r + 1 = N) (hP : 1 ≤ P) (hl : last < (P : Int) - 1) : (k.step C).ph = 1:=by
 obtain ⟨m1,m3,m4,m6,m7⟩:=h.at'.last (C:=C) h.ph hr
 obtain ⟨b1,b2⟩:=h.b hP hl
 rw [m7,if_pos]
 refine ⟨hP, ?_⟩
 rw [b2,b1 _ h.at'.slot_lt]
 simp
end
def GLeft (N : Nat) (k : Ge) (C : List Int) (m : Nat) : Prop :=
 (k.ta = none ∧ ∃ (st r P B : Nat) (last : Int),QInv k.sn C N st r P B last ∧ (3 * N + 10 ≤ m + r ∨ (last ≠ (P : Int) ∧ (P = 0 ∨ last = (P : Int) - 1) ∧ 2 * N + 5 ≤ m + r) ∨ (1 ≤ P ∧ last < (P : Int) - 1 ∧ N + 5 ≤ m + r))) ∨
 (∃ a,k.ta = some a ∧ ((a.lost = false ∧ (a.next ≤ 3 → C.getD a.slot.toNat 0 = a.word) ∧ (5 : Int) ≤ m + a.next) ∨ (2 * N + 10 : Int) ≤ m + a.next))
section
variable {k : Ge} {C C' : List Int} {N hz m m' : Nat} {z : Int}
theorem GLeft.same (h : GLeft N k C m) (hk : k.Ok N hz C) (hp : k.ph = 0) (e : WSame N C C') : GLeft N k C' m:=by
 rcases h with ⟨h1,st,r,P,B,last,h2,h3⟩ | ⟨a,h1,h2⟩
 ·exact .inl ⟨h1,st,r,P,B,last,h2.same e,h3⟩
 ·refine .inr ⟨a,h1, ?_⟩
  rcases h2 with ⟨h2,h3,h4⟩ | h2
  ·have ho:=(hk.ta hp a h1).1
   have h0:=ho.s0
   have h9:=ho.s1
   exact .inl ⟨h2,fun h=>(e _ (by omega)).trans (h3 h),h4⟩
  ·exact .inr h2
theorem GLeft.turn (h : GLeft N k C m) (C' : List Int) (hk : k.Ok N hz C) (hp : k.ph = 0) : GLeft N k C' (4 * N + 10):=by
 rcases h with ⟨h1,st,r,P,B,last,h2,h3⟩ | ⟨a,h1,h2⟩
 ·exact .inl ⟨h1,st,r,P,_,_,h2.store C',.inl (by omega)⟩
 ·obtain ⟨ho,ha⟩:=hk.ta hp a h1
  have:=ho.st ha
  exact .inr ⟨a,h1,.inr (by omega)⟩
theorem GLeft.start {t s so d who e start : Int} (hl : Lay t s N) : GLeft N (ge0 t s so d who e start N) C (4 * N + 10):=by
 have hn1:=hl.n1
 have ht1:=hl.t1
 have hn2:=hl.n2
 obtain ⟨m1,m2,m5,m3,m4⟩:=zAy start N (by omega) (by omega)
 obtain ⟨st,hst⟩ : ∃ st : Nat,IntKind.u64.wrap start % N = (st : Int):=⟨_,(Int.toNat_of_nonneg m3).symm⟩
 refine .inl ⟨rfl,st,0,0,0, -1, ?_,.inl (by omega)⟩
 show QInv (sn0 t s so d who (IntKind.u64.wrap start % N) N) C N st 0 0 0 (-1)
 rw [hst]
 exact QInv.start t s so d who C N st 0 (by omega)
theorem GLeft.step (h : GLeft N k C m) (hk : k.Ok N hz C) (hp : k.ph = 0) (ha : k.ask C z) : 1 ≤ m ∧ ((k.step N hz C z).ph ≠ 0 ∨ GLeft N (k.step N hz C z) (k.cells N hz C) (m - 1)):=by
 have hn1:=hk.lay.n1
 have ht1:=hk.lay.t1
 have hn2:=hk.lay.n2
 have hzz:=hk.hzz
 have w0:=hk.w0
 have w1:=hk.w1
 have hlen:=hk.len
 have hnp : ¬ k.ph ≠ 0:=by omega
 rcases h with ⟨hta,st,r,P,B,last,hq,h3⟩ | ⟨a,hta,h2⟩
 ·have e1 : k.step N hz C z = k.read (k.sn.step C) z:=by unfold Ge.step; rw [if_neg hnp,hta]
  have e2 : k.cells N hz C = C:=by unfold Ge.cells; rw [if_neg hnp,hta]
  have hr1:=hq.at'.r1
  have hl:=hq.l
  rw [e2]
  refine ⟨by omega, ?_⟩
  rcases (by omega : r + 1 < N ∨ r + 1 = N) with hr | hr
  ·have hm:=hq.mid hr
   have e3 : k.step N hz C z = { k with sn:=k.sn.step C }:=by
    rw [e1]
    unfold Ge.read
    rw [if_pos (by rw [hm.ph]; decide)]
   rw [e3]
   refine .inr (.inl ⟨hta,st,r + 1,P,B,last,hm, ?_⟩)
   rcases h3 with h3 | ⟨h3,h4,h5⟩ | ⟨h3,h4,h5⟩
   ·exact .inl (by omega)
   ·exact .inr (.inl ⟨h3,h4,by omega⟩)
   ·exact .inr (.inr ⟨h3,h4,by omega⟩)
  ·rcases hq.last hr with hm | hm
   ·have e3 : k.step N hz C z = { k with sn:=k.sn.step C }:=by
     rw [e1]
     unfold Ge.read
     rw [if_pos (by rw [hm.ph]; decide)]
    rw [e3]
    refine .inr (.inl ⟨hta,st,0,P + 1,B,last,hm, ?_⟩)
    rcases h3 with h3 | ⟨h3,h4,h5⟩ | ⟨h3,h4,h5⟩
    ·by_cases hlp : last = (P : Int)
     ·exact .inr (.inl ⟨by omega,.inr (by omega),by omega⟩)
     ·exact .inr (.inr ⟨by omega,by omega,by omega⟩)
    ·exact .inr (.inr ⟨by omega,by omega,by omega⟩)
    ·have:=hq.sure hr h3 h4
     rw [hm.ph] at this
     exact absurd this (by decide)
   ·have hd:=hm.ph
    by_cases hz0 : z < 0
    ·have e3 : k.step N hz C z = { k with sn:=k.sn.step C,ph:=2 }:=by
      rw [e1]
      unfold Ge.read
      rw [if_neg (fun h=>h hd),if_pos hz0]
     rw [e3]
     exact .inl (by show (2 : Int) ≠ 0; decide)
    ·have e3 : k.step N hz C z = { k with sn:=k.sn.step C,ta:=some (ta0 k.t k.s k.so k.d k.who z ((k.sn.step C).X.getD z.toNat 0)) }:=by
      rw [e1]
      unfold Ge.read
      rw [if_neg (fun h=>h hd),if_neg hz0]
     have hE:=ha hp hta hd
     have hzN : z.toNat < N:=by
      rcases hE with ⟨hz1,_⟩ | ⟨j,rfl,hj,_⟩
      ·omega
      ·have:=hm.at'.X
       rw [Int.toNat_natCast]
       omega
     rw [e3]
     refine .inr (.inr ⟨_,rfl, ?_⟩)
     show (false = false ∧ ((0 : Int) ≤ 3 → C.getD z.toNat 0 = (k.sn.step C).X.getD z.toNat 0) ∧ (5 : Int) ≤ (m - 1 : Nat) + 0) ∨ (2 * N + 10 : Int) ≤ (m - 1 : Nat) + 0
     rcases h3 with h3 | ⟨h3,h4,h5⟩ | ⟨h3,h4,h5⟩
     ·exact .inr (by omega)
     ·exact .inl ⟨rfl,fun _=>(hm.x (by omega) _ hzN).symm,by omega⟩
     ·exact .inl ⟨rfl,fun _=>(hm.x (by omega) _ hzN).symm,by omega⟩
 ·obtain ⟨ho,ap⟩:=hk.ta hp a hta
  have s0:=ho.s0
  have s1:=ho.s1
  have e1 : k.step N hz C z = k.grab N (a.go a.slot.toNat (N + a.slot.toNat) C):=by unfold Ge.step; rw [if_neg hnp,hta]
  have e2 : k.cells N hz C = a.cells a.slot.toNat hz C:=by unfold Ge.cells; rw [if_neg hnp,hta]
  have on : ∀ a' : Ta,a.go a.slot.toNat (N + a.slot.toNat) C = a' → a'.ph = 0 → k.step N hz C z = { k with ta:=some a' }:=fun a' g hp'=>by
   rw [e1,g]
   unfold Ge.grab
   rw [if_neg (by omega),if_neg (by omega)]
  rcases ho.st ap with ⟨hn,hl⟩ | ⟨hn,hl⟩ | ⟨hn,hl⟩ | ⟨hn,hl⟩ | hn
  ·obtain ⟨g1,g2,g3⟩:=go_0 (j:=a.slot.toNat) (jv:=N + a.slot.toNat) (hz:=hz) (C:=C) ap hn
   rw [on _ g1 ap,e2,g2]
   refine ⟨by omega,.inr (.inr ⟨_,rfl, ?_⟩)⟩
   rcases h2 with ⟨h2,h3,h4⟩ | h2
   ·exact .inl ⟨hl,fun _=>by show (C.set hz _).getD a.slot.toNat 0 = a.word; exact (zAH _ (by omega)).trans (h3 (by omega)),by show (5 : Int) ≤ (m - 1 : Nat) + 1; omega⟩
   ·exact .inr (by show (2 * N + 10 : Int) ≤ (m - 1 : Nat) + 1; omega)
  ·by_cases hw : C.getD a.slot.toNat 0 = a.word
   ·obtain ⟨g1,g2,g3⟩:=go_1y (jv:=N + a.slot.toNat) (hz:=hz) ap hn hw
    rw [on _ g1 ap,e2,g2]
    refine ⟨by omega,.inr (.inr ⟨_,rfl, ?_⟩)⟩
    rcases h2 with ⟨h2,h3,h4⟩ | h2
    ·exact .inl ⟨hl,fun _=>hw,by show (5 : Int) ≤ (m - 1 : Nat) + 2; omega⟩
    ·exact .inr (by show (2 * N + 10 : Int) ≤ (m - 1 : Nat) + 2; omega)
   ·obtain ⟨g1,g2,g3⟩:=go_1n (jv:=N + a.slot.toNat) (hz:=hz) ap hn hw
    rw [on _ g1 ap,e2,g2]
    rcases h2 with ⟨h2,h3,h4⟩ | h2
    ·exact absurd (h3 (by omega)) hw
    ·exact ⟨by omega,.inr (.inr ⟨_,rfl,.inr (by show (2 * N + 10 : Int) ≤ (m - 1 : Nat) + 4; omega)⟩)⟩
  ·obtain ⟨g1,g2,g3⟩:=go_2 (j:=a.slot.toNat) (jv:=N + a.slot.toNat) (hz:=hz) (C:=C) ap hn
   rw [on _ g1 ap,e2,g2]
   refine ⟨by omega,.inr (.inr ⟨_,rfl, ?_⟩)⟩
   rcases h2 with ⟨h2,h3,h4⟩ | h2
   ·exact .inl ⟨hl,fun _=>h3 (by omega),by show (5 : Int) ≤ (m - 1 : Nat) + 3; omega⟩
   ·exact .inr (by show (2 * N + 10 : Int) ≤ (m - 1 : Nat) + 3; omega)
  ·by_cases hw : C.getD a.slot.toNat 0 = a.word
   ·obtain ⟨g1,g2,g3⟩:=go_3y (jv:=N + a.slot.toNat) (hz:=hz) ap hn hw
    rw [on _ g1 ap,e2,g2]
    refine ⟨by omega,.inr (.inr ⟨_,rfl, ?_⟩)⟩
    rcases h2 with ⟨h2,h3,h4⟩ | h2
    ·exact .inl ⟨hl,fun h=>absurd h (by show ¬ (4 : Int) ≤ 3; decide),by show (5 : Int) ≤ (m - 1 : Nat) + 4; omega⟩
    ·exact .inr (by show (2 * N + 10 : Int) ≤ (m - 1 : Nat) + 4; omega)
   ·obtain ⟨g1,g2,g3⟩:=go_3n (jv:=N + a.slot.toNat) (hz:=hz) ap hn hw
    rw [on _ g1 ap,e2,g2]
    rcases h2 with ⟨h2,h3,h4⟩ | h2
    ·exact absurd (h3 (by omega)) hw
    ·exact ⟨by omega,.inr (.inr ⟨_,rfl,.inr (by show (2 * N + 10 : Int) ≤ (m - 1 : Nat) + 4; omega)⟩)⟩
  ·by_cases hl : a.lost = true
   ·obtain ⟨g1,g2,g3⟩:=go_4n (j:=a.slot.toNat) (jv:=N + a.slot.toNat) (hz:=hz) (C:=C) ap hn hl
    have e3 : k.step N hz C z = { k with tries:=k.tries + 1,sn:=sn0 k.t k.s k.so k.d k.who (IntKind.u64.wrap k.start % N) N,ta:=none }:=by
     rw [e1,g1]
     unfold Ge.grab
     rw [if_neg (by show ¬ (2 : Int) = 1; decide),if_pos rfl]
    rw [e3,e2,g2]
    rcases h2 with ⟨h2,_⟩ | h2
    ·rw [hl] at h2
     cases h2
    ·obtain ⟨m1,m2,m5,m3,m4⟩:=zAy k.start N (by omega) (by omega)
     obtain ⟨st,hst⟩ : ∃ st : Nat,IntKind.u64.wrap k.start % N = (st : Int):=⟨_,(Int.toNat_of_nonneg m3).symm⟩
     refine ⟨by omega,.inr (.inl ⟨rfl,st,0,0,0, -1, ?_,.inr (.inl ⟨by decide,.inl rfl,by omega⟩)⟩)⟩
     show QInv (sn0 k.t k.s k.so k.d k.who (IntKind.u64.wrap k.start % N) N) _ N st 0 0 0 (-1)
     rw [hst]
     exact QInv.start _ _ _ _ _ _ N st 0 (by omega)
   ·have hl' : a.lost = false:=by simpa using hl
    obtain ⟨g1,g2,g3⟩:=go_4y (j:=a.slot.toNat) (jv:=N + a.slot.toNat) (hz:=hz) (C:=C) ap hn hl'
    have e3 : k.step N hz C z = { k with ta:=some { a with next:=5,ph:=1 },ph:=1 }:=by
     rw [e1,g1]
     unfold Ge.grab
     rw [if_pos rfl]
    rw [e3]
    exact ⟨by rcases h2 with ⟨_,_,h4⟩ | h2 <;> omega,.inl (by show (1 : Int) ≠ 0; decide)⟩
end
theorem zG3 {nb N : Nat} {k : Tk} {C : List Int} {now : Int} (h : N ≤ nb) : WSame N C (stp nb k C now).2.1:=by
 have h0 : ∀ x,WSame N C (C.set nb x):=fun x=>WSame.set C x h
 have h1 : ∀ x,WSame N C (C.set (nb + k.who.toNat) x):=fun x=>WSame.set C x (by omega)
 have h2 : WSame N C C:=WSame.refl N C
 unfold stp
 repeat' split
 all_goals first | exact h0 _ | exact h1 _ | exact h2
def WTurn (N : Nat) (T T' : Wk) (E : List Ev) : Prop :=
 (∃ e,E = [e] ∧ 0 ≤ e.cell ∧ e.cell < N ∧ (e.op = 1 ∨ (e.op = 2 ∧ e.ok = true))) ∧ (T'.ph = 1 ∨ ∃ k a,T' = .ge k ∧ k.ph = 0 ∧ k.ta = some a ∧ a.next = 4 ∧ a.lost = false)
def Wk.last (T : Wk) : Prop := ∃ k a,T = .ge k ∧ k.ph = 0 ∧ k.ta = some a ∧ a.next = 4 ∧ a.lost = false
theorem Wk.words {T : Wk} {P : Pl} {C : List Int} {now z : Int} (h : T.Ok P C) (hp : T.ph = 0) : WSame P.N C (T.cells P C now) ∨ WTurn P.N T (T.step P C now z) (T.ev P C now):=by
 cases T with
 | pu k =>
  have h1 : k.Ok P.N P.m P.nb P.h0 C:=h
  have hp0 : k.ph = 0:=hp
  have hnp : ¬ k.ph ≠ 0:=by omega
  have s0:=h1.cl.s0; have s1:=h1.cl.s1; have m0:=h1.cl.m0; have m1:=h1.cl.m1; have nt:=h1.tk.nt; have t1:=h1.cl.lay.t1; have ct:=h1.ct; have tt:=h1.tt
  show WSame P.N C (k.cells P.N P.nb C now) ∨ WTurn P.N (.pu k) (.pu (k.step P.m P.nb P.h0 C now)) (k.ev P.N P.nb P.h0 C now)
  rcases h1.at' hp0 with ⟨a,_,_⟩ | ⟨a,_,_⟩ | ⟨a,_,_⟩ | ⟨a,_,_⟩
  ·refine .inl ?_
   unfold Pu.cells
   rw [if_neg hnp,if_pos a]
   exact WSame.refl _ _
  ·refine .inl ?_
   unfold Pu.cells
   rw [if_neg hnp,if_neg (by omega),if_pos a]
   exact zG3 (by omega)
  ·refine .inl ?_
   unfold Pu.cells
   rw [if_neg hnp,if_neg (by omega),if_neg (by omega),if_pos a]
   exact WSame.set _ _ (by omega)
  ·refine .inr ⟨?_,.inl ?_⟩
   ·unfold Pu.ev
    rw [if_neg hnp,if_neg (by omega),if_neg (by omega),if_neg (by omega)]
    exact ⟨_,rfl,by show (0 : Int) ≤ (k.cl.slot.toNat : Nat); omega,by show ((k.cl.slot.toNat : Nat) : Int) < P.N; omega,.inl rfl⟩
   ·show (k.step P.m P.nb P.h0 C now).ph = 1
    unfold Pu.step
    rw [if_neg hnp,if_neg (by omega),if_neg (by omega),if_neg (by omega)]
 | ge k =>
  have h1 : k.Ok P.N P.hw C:=h.1
  have hp0 : k.ph = 0:=hp
  have hnp : ¬ k.ph ≠ 0:=by omega
  have hzz:=h1.hzz
  have w0:=h1.w0
  show WSame P.N C (k.cells P.N P.hw C) ∨ WTurn P.N (.ge k) (.ge (k.step P.N P.hw C z)) (k.ev P.N P.hw C)
  cases hta : k.ta with
  | none =>
   refine .inl ?_
   have e2 : k.cells P.N P.hw C = C:=by unfold Ge.cells; rw [if_neg hnp,hta]
   rw [e2]
   exact WSame.refl _ _
  | some a =>
   obtain ⟨ho,ap⟩:=h1.ta hp0 a hta
   have s0:=ho.s0
   have s1:=ho.s1
   have e1 : k.step P.N P.hw C z = k.grab P.N (a.go a.slot.toNat (P.N + a.slot.toNat) C):=by unfold Ge.step; rw [if_neg hnp,hta]
   have e2 : k.cells P.N P.hw C = a.cells a.slot.toNat P.hw C:=by unfold Ge.cells; rw [if_neg hnp,hta]
   have e3 : k.ev P.N P.hw C = a.ev a.slot.toNat (P.N + a.slot.toNat) P.hw C:=by unfold Ge.ev; rw [if_neg hnp,hta]
   rw [e2]
   rcases ho.st ap with ⟨hn,hl⟩ | ⟨hn,hl⟩ | ⟨hn,hl⟩ | ⟨hn,hl⟩ | hn
   ·rw [(go_0 (j:=a.slot.toNat) (jv:=P.N + a.slot.toNat) (hz:=P.hw) (C:=C) ap hn).2.1]
    exact .inl (WSame.set _ _ (by omega))
   ·by_cases hw : C.getD a.slot.toNat 0 = a.word
    ·rw [(go_1y (jv:=P.N + a.slot.toNat) (hz:=P.hw) ap hn hw).2.1]
     exact .inl (WSame.refl _ _)
    ·rw [(go_1n (jv:=P.N + a.slot.toNat) (hz:=P.hw) ap hn hw).2.1]
     exact .inl (WSame.refl _ _)
   ·rw [(go_2 (j:=a.slot.toNat) (jv:=P.N + a.slot.toNat) (hz:=P.hw) (C:=C) ap hn).2.1]
    exact .inl (WSame.refl _ _)
   ·by_cases hw : C.getD a.slot.toNat 0 = a.word
    ·obtain ⟨g1,g2,g3⟩:=go_3y (jv:=P.N + a.slot.toNat) (hz:=P.hw) ap hn hw
     refine .inr ⟨⟨_,e3.trans g3,by show (0 : Int) ≤ (a.slot.toNat : Nat); omega,by show ((a.slot.toNat : Nat) : Int) < P.N; omega,.inr ⟨rfl,rfl⟩⟩,.inr ⟨{ k with ta:=some { a with next:=4 } }, { a with next:=4 }, ?_,hp0,rfl,rfl,hl⟩⟩
     rw [e1,g1]
     unfold Ge.grab
     rw [if_neg (by show ¬ a.ph = 1; omega),if_neg (by show ¬ a.ph = 2; omega)]
    ·rw [(go_3n (jv:=P.N + a.slot.toNat) (hz:=P.hw) ap hn hw).2.1]
     exact .inl (WSame.refl _ _)
   ·by_cases hl : a.lost = true
    ·rw [(go_4n (j:=a.slot.toNat) (jv:=P.N + a.slot.toNat) (hz:=P.hw) (C:=C) ap hn hl).2.1]
     exact .inl (WSame.set _ _ (by omega))
    ·rw [(go_4y (j:=a.slot.toNat) (jv:=P.N + a.slot.toNat) (hz:=P.hw) (C:=C) ap hn (by simpa using hl)).2.1]
     exact .inl (WSame.set _ _ (by omega))
theorem Wk.last_over {T : Wk} {P : Pl} {C : List Int} {now z : Int} (h : T.Ok P C) (hl : T.last) : (T.step P C now z).ph = 1:=by
 obtain ⟨k,a,rfl,hp,hta,hn,hf⟩:=hl
 have h1 : k.Ok P.N P.hw C:=h.1
 obtain ⟨ho,ap⟩:=h1.ta hp a hta
 show (k.step P.N P.hw C z).ph = 1
 have e1 : k.step P.N P.hw C z = k.grab P.N (a.go a.slot.toNat (P.N + a.slot.toNat) C):=by unfold Ge.step; rw [if_neg (by omega),hta]
 rw [e1,(go_4y (j:=a.slot.toNat) (jv:=P.N + a.slot.toNat) (hz:=0) (C:=C) ap hn hf).1]
 unfold Ge.grab
 rw [if_pos rfl]
def WLeft (P : Pl) (T : Wk) (C : List Int) (m : Nat) : Prop:=match T with
 | .pu k=>k.rem P.m ≤ m
 | .ge k=>GLeft P.N k C m
section
variable {T : Wk} {P : Pl} {C C' : List Int} {now z : Int} {m m' : Nat}
theorem WLeft.same (h : WLeft P T C m) (hk : T.Ok P C) (hp : T.ph = 0) (e : WSame P.N C C') : WLeft P T C' m:=by
 cases T with
 | pu k=>exact h
 | ge k=>exact GLeft.same h hk.1 hp e
theorem WLeft.step (h : WLeft P T C m) (hk : T.Ok P C) (hp : T.ph = 0) (ha : T.ask C z) (n0 : 0 ≤ now) (hf : ∀ j,0 ≤ C.getD j 0) : 1 ≤ m ∧ ((T.step P C now z).ph ≠ 0 ∨ WLeft P (T.step P C now z) (T.cells P C now) (m - 1)):=by
 cases T with
 | pu k =>
  have hk' : k.Ok P.N P.m P.nb P.h0 C:=hk
  have h' : k.rem P.m ≤ m:=h
  have h1:=(hk'.next_ (now:=now) n0 hf).2 hp
  have h2:=Pu.rem_pos hk' hp
  refine ⟨by omega,.inr ?_⟩
  show (k.step P.m P.nb P.h0 C now).rem P.m ≤ (m - 1 : Nat)
  omega
 | ge k=>exact GLeft.step h hk.1 hp ha
end
end
section
open Go.RowKit
def Wk.lim (T : Wk) (N put tn : Nat) : Nat:=match T with
 | .pu _=>put
 | .ge _=>(tn + 1) * (4 * N + 10)
theorem Wk.lim_step (T : Wk) (P : Pl) (C : List Int) (now z : Int) (N put tn : Nat) : (T.step P C now z).lim N put tn = T.lim N put tn:=by
 cases T <;> rfl
theorem Wk.lim_mono (T : Wk) {N put tn tn' : Nat} (h : tn ≤ tn') : T.lim N put tn ≤ T.lim N put tn':=by
 cases T with
 | pu k=>exact Nat.le_refl _
 | ge k=>exact Nat.mul_le_mul_right _ (by omega)
def OLeft (P : Pl) (T : Wk) (C : List Int) (put own tn : Nat) : Prop := ∃ m,WLeft P T C m ∧ m ≤ T.lim P.N put 0 ∧ own + m ≤ T.lim P.N put tn
section
variable {P : Pl} {T : Wk} {C C' : List Int} {put own tn tn' : Nat} {now z : Int}
theorem OLeft.le (h : OLeft P T C put own tn) : own ≤ T.lim P.N put tn:=by
 obtain ⟨m,_,_,h3⟩:=h
 omega
theorem OLeft.new (h : WLeft P T C (T.lim P.N put 0)) : OLeft P T C put 0 0:=⟨_,h,Nat.le_refl _,by omega⟩
theorem OLeft.again (h : OLeft P T C put own tn) : OLeft P T C put 0 0:=by
 obtain ⟨m,h1,h2,_⟩:=h
 exact ⟨m,h1,h2,by omega⟩
theorem OLeft.more (h : OLeft P T C put own tn) (ht : tn ≤ tn') : OLeft P T C put own tn':=by
 obtain ⟨m,h1,h2,h3⟩:=h
 exact ⟨m,h1,h2,Nat.le_trans h3 (T.lim_mono ht)⟩
theorem OLeft.same (h : OLeft P T C put own tn) (hk : T.Ok P C) (hp : T.ph = 0) (e : WSame P.N C C') : OLeft P T C' put own tn:=by
 obtain ⟨m,h1,h2,h3⟩:=h
 exact ⟨m,h1.same hk hp e,h2,h3⟩
theorem OLeft.turn (h : OLeft P T C put own tn) (C' : List Int) (hk : T.Ok P C) (hp : T.ph = 0) : OLeft P T C' put own (tn + 1):=by
 obtain ⟨m,h1,h2,h3⟩:=h
 cases T with
 | pu k=>exact ⟨m,h1,h2,h3⟩
 | ge k =>
  have h3' : own + m ≤ (tn + 1) * (4 * P.N + 10):=h3
  refine ⟨4 * P.N + 10,GLeft.turn h1 C' hk.1 hp, ?_, ?_⟩
  ·show 4 * P.N + 10 ≤ (0 + 1) * (4 * P.N + 10)
   omega
  ·show own + (4 * P.N + 10) ≤ (tn + 1 + 1) * (4 * P.N + 10)
   rw [Nat.add_mul (tn + 1) 1,Nat.one_mul]
   omega
theorem OLeft.step (h : OLeft P T C put own tn) (hk : T.Ok P C) (hp : T.ph = 0) (ha : T.ask C z) (n0 : 0 ≤ now) (hf : ∀ j,0 ≤ C.getD j 0) : own + 1 ≤ T.lim P.N put tn ∧ ((T.step P C now z).ph ≠ 0 ∨ OLeft P (T.step P C now z) (T.cells P C now) put (own + 1) tn):=by
 obtain ⟨m,h1,h2,h3⟩:=h
 obtain ⟨g1,g2⟩:=h1.step hk hp ha n0 hf (now:=now)
 refine ⟨by omega,g2.imp id (fun g=>⟨m - 1,g, ?_, ?_⟩)⟩
 ·rw [T.lim_step]
  omega
 ·rw [T.lim_step]
  omega
end
def tot (f : Nat → Nat) : Nat → Nat
 | 0=>0
 | n + 1=>tot f n + f n
def updN (f : Nat → Nat) (k v : Nat) : Nat → Nat:=fun j=>if j = k then v else f j
theorem zA5 (f : Nat → Nat) (k v : Nat) : updN f k v k = v:=if_pos rfl
theorem zAV {f : Nat → Nat} {k v j : Nat} (h : j ≠ k) : updN f k v j = f j:=if_neg h
def othN (f : Nat → Nat) (w d : Nat) : Nat → Nat:=fun k=>if k = w then f w else f k + d
theorem zCE (f : Nat → Nat) (w d : Nat) : othN f w d w = f w:=if_pos rfl
theorem zBp {f : Nat → Nat} {w d k : Nat} (h : k ≠ w) : othN f w d k = f k + d:=if_neg h
theorem zEc (f : Nat → Nat) (k : Nat) : ∀ n,tot (updN f k (f k + 1)) n = tot f n + if k < n then 1 else 0
 | 0=>rfl
 | n + 1=>by
  have ih:=zEc f k n
  rw [tot,tot,ih]
  by_cases e : n = k
  ·subst e
   rw [zA5,if_neg (Nat.lt_irrefl _),if_pos (Nat.lt_succ_self _)]
   omega
  ·rw [zAV e]
   by_cases h : k < n
   ·rw [if_pos h,if_pos (by omega)]
    omega
   ·rw [if_neg h,if_neg (by omega)]
    omega
theorem zF4 {f : Nat → Nat} {b : Nat} : ∀ {n : Nat},(∀ k,k < n → f k ≤ b) → tot f n ≤ n * b
 | 0,_=>by simp [tot]
 | n + 1,h=>by
  have ih:=zF4 (n:=n) (fun k hk=>h k (by omega))
  have:=h n (by omega)
  rw [tot,Nat.add_mul,Nat.one_mul]
  omega
theorem zDh {f : Nat → Nat} {n : Nat} (h : ∀ k,f k = 0) : tot f n = 0:=by
 induction n with
 | zero=>rfl
 | succ n ih=>rw [tot,ih,h n]
theorem zFt {f : Nat → Nat} {k : Nat} : ∀ {n : Nat},k < n → f k ≤ tot f n
 | 0,h=>absurd h (Nat.not_lt_zero _)
 | n + 1,h=>by
  rw [tot]
  by_cases e : k = n
  ·subst e
   omega
  ·have:=zFt (f:=f) (n:=n) (k:=k) (by omega)
   omega
theorem zF3 {f : Nat → Nat} {k : Nat} (h1 : ∀ j,f j ≤ 1) : ∀ {n : Nat},k < n → tot f n - f k + 1 ≤ n
 | 0,h=>absurd h (Nat.not_lt_zero _)
 | n + 1,h=>by
  have hn:=h1 n
  rw [tot]
  by_cases e : k = n
  ·subst e
   have:=zF4 (f:=f) (b:=1) (n:=k) (fun j _=>h1 j)
   omega
  ·have ih:=zF3 h1 (n:=n) (k:=k) (by omega)
   have hg:=zFt (f:=f) (n:=n) (k:=k) (by omega)
   omega
section
variable {pl : Nat → Pl} {t n N put : Nat} {Y : Yd} {own tn : Nat → Nat}
def Books (pl : Nat → Pl) (put : Nat) (Y : Yd) (own tn : Nat → Nat) : Prop:=∀ (k : Nat) (T : Wk) (i : Nat),Y.ts[k]? = some (some (T,i)) → OLeft (pl k) T Y.C put (own k) (tn k)
theorem Books.none (h : ∀ (k : Nat) (a : Wk × Nat),Y.ts[k]? ≠ some (some a)) : Books pl put Y own tn:=fun k T i hk=>absurd hk (h k _)
theorem Books.call (h : Books pl put Y own tn) {w : Nat} {kd e x s : Int} {T : Wk} (hw : Y.ts[w]? = some .none) (hT : OLeft (pl w) T Y.C put 0 0) : Books pl put (Y.call w kd e x s T) (updN own w 0) (updN tn w 0):=fun k T' i hk=>by
 have hk' : (Y.ts.set w (some (T,Y.ds.length)))[k]? = some (some (T',i)):=hk
 rw [List.getElem?_set] at hk'
 split at hk'
 ·rename_i e1
  subst e1
  rw [zA5,zA5]
  split at hk'
  ·cases hk'
   exact hT
  ·cases hk'
 ·rename_i e1
  rw [zAV (fun e2=>e1 e2.symm),zAV (fun e2=>e1 e2.symm)]
  exact h k T' i hk'
theorem zCA {P : Pl} {w : Nat} {T : Wk} {i : Nat} {z : Int} {k : Nat} {T' : Wk} {i' : Nat} (h : (Y.step P w T i z).ts[k]? = some (some (T',i'))) : (k = w ∧ T' = T.step P Y.C Y.now z ∧ (T.step P Y.C Y.now z).ph = 0) ∨ (k ≠ w ∧ Y.ts[k]? = some (some (T',i'))):=by
 have h' : (if (T.step P Y.C Y.now z).ph = 0 then Y.ts.set w (some (T.step P Y.C Y.now z,i)) else Y.ts.set w Option.none)[k]? = some (some (T',i')):=h
 split at h'
 ·rename_i hp
  rw [List.getElem?_set] at h'
  split at h'
  ·rename_i e1
   split at h'
   ·cases h'
    exact .inl ⟨e1.symm,rfl,hp⟩
   ·cases h'
  ·rename_i e1
   exact .inr ⟨fun e2=>e1 e2.symm,h'⟩
 ·rw [List.getElem?_set] at h'
  split at h'
  ·split at h'
   ·cases h'
   ·cases h'
  ·rename_i e1
   exact .inr ⟨fun e2=>e1 e2.symm,h'⟩
theorem Books.step (h : Books pl put Y own tn) (ho : YOk pl t n Y) (hN : ∀ k,(pl k).N = N) {w : Nat} {T : Wk} {i : Nat} {z : Int} (hw : Y.ts[w]? = some (some (T,i))) (ha : T.ask Y.C z) (hf : ∀ j,0 ≤ Y.C.getD j 0) {dl : Nat} (hd : WSame N Y.C (T.cells (pl w) Y.C Y.now) ∨ 1 ≤ dl) :
  own w + 1 ≤ T.lim N put (tn w) ∧ Books pl put (Y.step (pl w) w T i z) (updN own w (own w + 1)) (othN tn w dl):=by
 obtain ⟨k1,k2,k3,k4,_⟩:=ho.task w T i hw
 obtain ⟨g1,g2⟩:=(h w T i hw).step k1 k4 ha ho.now0 hf (now:=Y.now)
 rw [hN w] at g1
 refine ⟨g1,fun k T' i' hk=>?_⟩
 rcases zCA hk with ⟨rfl,rfl,hp⟩ | ⟨hne,hk⟩
 ·rw [zA5,zCE]
  exact g2.resolve_left (fun hh=>hh hp)
 ·rw [zAV hne,zBp hne]
  obtain ⟨q1,q2,q3,q4,_⟩:=ho.task k T' i' hk
  have hb:=h k T' i' hk
  rcases hd with hd | hd
  ·exact (hb.same q1 q4 (by rw [hN k]; exact hd)).more (by omega)
  ·exact (hb.turn _ q1 q4).more (by omega)
structure Stretch (pl : Nat → Pl) (t put : Nat) (Y : Yd) (s tu : Nat → Nat) : Prop where
 books : Books pl put Y s (fun k=>tot tu t - tu k)
 one : ∀ k,tu k ≤ 1
 last : ∀ (k : Nat) (T : Wk) (i : Nat),Y.ts[k]? = some (some (T,i)) → tu k = 1 → T.last
 idle : ∀ k,(∀ a,Y.ts[k]? ≠ some (some a)) → s k = 0 ∧ tu k = 0
theorem Stretch.short (h : Stretch pl t put Y (own) tn) (ho : YOk pl t n Y) (hN : ∀ k,(pl k).N = N) (ht : 1 ≤ t) {b : Nat} (h1 : put ≤ b) (h2 : t * (4 * N + 10) ≤ b) : tot own t ≤ t * b:=by
 refine zF4 (fun k hk=>?_)
 have hlt : k < Y.ts.length:=by rw [ho.len]; exact hk
 cases hq : Y.ts[k]? with
 | none =>
  have:=List.getElem?_eq_none_iff.1 hq
  omega
 | some a =>
  cases a with
  | none =>
   rw [(h.idle k (fun a ha=>by rw [hq] at ha; cases ha)).1]
   exact Nat.zero_le _
  | some a =>
   have hb:=(h.books k a.1 a.2 hq).le
   refine Nat.le_trans hb ?_
   rw [hN k]
   have h3:=zF3 (f:=tn) h.one hk
   cases ha : a.1 with
   | pu q=>exact h1
   | ge q =>
    show (tot tn t - tn k + 1) * (4 * N + 10) ≤ b
    exact Nat.le_trans (Nat.mul_le_mul_right _ h3) h2
theorem Stretch.step (h : Stretch pl t put Y own tn) (ho : YOk pl t n Y) (hN : ∀ k,(pl k).N = N) {w : Nat} {T : Wk} {i : Nat} {z : Int} (hw : Y.ts[w]? = some (some (T,i))) (ha : T.ask Y.C z) (hf : ∀ j,0 ≤ Y.C.getD j 0) (hp : (T.step (pl w) Y.C Y.now z).ph = 0) :
  ∃ tn',Stretch pl t put (Y.step (pl w) w T i z) (updN own w (own w + 1)) tn' ∧ tot (updN own w (own w + 1)) t = tot own t + 1:=by
 have hwt : w < t:=by rw [← ho.len]; exact (List.getElem?_eq_some_iff.1 hw).1
 obtain ⟨k1,k2,k3,k4,_⟩:=ho.task w T i hw
 have hu0 : tn w = 0:=by
  have:=h.one w
  by_cases e : tn w = 1
  ·have h1:=Wk.last_over (P:=pl w) (C:=Y.C) (now:=Y.now) (z:=z) k1 (h.last w T i hw e)
   omega
  ·omega
 have htot : tot (updN own w (own w + 1)) t = tot own t + 1:=by rw [zEc,if_pos hwt]
 have hidle : ∀ k,(∀ a,(Y.step (pl w) w T i z).ts[k]? ≠ some (some a)) → k ≠ w ∧ ∀ a,Y.ts[k]? ≠ some (some a):=fun k hk=>by
  have e1 : (Y.step (pl w) w T i z).ts = Y.ts.set w (some (T.step (pl w) Y.C Y.now z,i)):=if_pos hp
  have hne : k ≠ w:=fun e=>by
   subst e
   refine hk (T.step (pl k) Y.C Y.now z,i) ?_
   rw [e1,List.getElem?_set_self (List.getElem?_eq_some_iff.1 hw).1]
  refine ⟨hne,fun a ha=>hk a ?_⟩
  rw [e1,List.getElem?_set_ne (fun e=>hne e.symm)]
  exact ha
 rcases Wk.words (now:=Y.now) (z:=z) k1 k4 with hs | ⟨_,hl⟩
 ·rw [hN w] at hs
  obtain ⟨g1,g2⟩:=h.books.step ho hN hw ha hf (dl:=0) (.inl hs)
  refine ⟨tn,⟨fun k T' i' hk=>?_,h.one,fun k T' i' hk hu=>?_,fun k hk=>?_⟩,htot⟩
  ·have h9:=g2 k T' i' hk
   by_cases e : k = w
   ·subst e
    rw [zCE] at h9
    exact h9
   ·rw [zBp e] at h9
    exact h9
  ·rcases zCA hk with ⟨rfl,_⟩ | ⟨hne,hk⟩
   ·omega
   ·exact h.last k T' i' hk hu
  ·obtain ⟨hne,hk'⟩:=hidle k hk
   rw [zAV hne]
   exact h.idle k hk'
 ·have hlast : (T.step (pl w) Y.C Y.now z).last:=by
   rcases hl with hl | hl
   ·omega
   ·exact hl
  obtain ⟨g1,g2⟩:=h.books.step ho hN hw ha hf (dl:=1) (.inr (Nat.le_refl _))
  have htu : tot (updN tn w 1) t = tot tn t + 1:=by
   have:=zEc tn w t
   rw [hu0,if_pos hwt] at this
   exact this
  refine ⟨updN tn w 1,⟨fun k T' i' hk=>?_,fun k=>?_,fun k T' i' hk hu=>?_,fun k hk=>?_⟩,htot⟩
  ·have h9:=g2 k T' i' hk
   show OLeft (pl k) T' (Y.step (pl w) w T i z).C put _ (tot (updN tn w 1) t - updN tn w 1 k)
   by_cases e : k = w
   ·subst e
    rw [zCE,hu0] at h9
    show OLeft _ _ _ put (updN own k (own k + 1) k) (tot (updN tn k 1) t - updN tn k 1 k)
    rw [zA5 tn,htu]
    exact h9.more (by omega)
   ·rw [zBp e] at h9
    rw [htu,zAV (f:=tn) e]
    have hkt : k < t:=by
     rcases zCA hk with ⟨e2,_⟩ | ⟨_,hk2⟩
     ·exact absurd e2 e
     ·rw [← ho.len]
      exact (List.getElem?_eq_some_iff.1 hk2).1
    have hg:=zFt (f:=tn) hkt
    have hle : (tot tn t - tn k) + 1 ≤ tot tn t + 1 - tn k:=by omega
    exact OLeft.more h9 hle
  ·by_cases e : k = w
   ·subst e
    rw [zA5]
    exact Nat.le_refl _
   ·rw [zAV e]
    exact h.one k
  ·rcases zCA hk with ⟨rfl,rfl,_⟩ | ⟨hne,hk⟩
   ·exact hlast
   ·rw [zAV hne] at hu
    exact h.last k T' i' hk hu
  ·obtain ⟨hne,hk'⟩:=hidle k hk
   rw [zAV hne,zAV hne]
   exact h.idle k hk'
theorem Stretch.ended (h : Stretch pl t put Y own tn) (ho : YOk pl t n Y) (hN : ∀ k,(pl k).N = N) {w : Nat} {T : Wk} {i : Nat} {z : Int} (hw : Y.ts[w]? = some (some (T,i))) (ha : T.ask Y.C z) (hf : ∀ j,0 ≤ Y.C.getD j 0) :
  Stretch pl t put (Y.step (pl w) w T i z) (fun _=>0) (fun _=>0):=by
 obtain ⟨g1,g2⟩:=h.books.step ho hN hw ha hf (dl:=1) (.inr (Nat.le_refl _))
 exact ⟨fun k T' i' hk=>(g2 k T' i' hk).again.more (Nat.zero_le _),fun _=>Nat.zero_le _,fun k T' i' _ hu=>absurd hu (by decide),fun _ _=>⟨rfl,rfl⟩⟩
end
theorem OLeft.begun {t s so d who e x start m : Int} {N nb h0 hw put : Nat} {C : List Int} (take : Bool) (hl : Lay t s N) (hput : s * (t + 1) + most t so d + 2 = (put : Int)) : OLeft ⟨N,m,nb,h0,hw⟩ (wk0 t s so d who take e x start m N) C put 0 0:=by
 refine OLeft.new ?_
 cases take with
 | true =>
  show GLeft N (ge0 t s so d who e start N) C ((0 + 1) * (4 * N + 10))
  rw [Nat.zero_add,Nat.one_mul]
  exact GLeft.start hl
 | false =>
  show (pu0 t s so d who e x m).rem m ≤ (put : Int)
  rw [zIR]
  omega
end
section
open Go.RowKit
def busyN (Y : Yd) : Nat:=Y.ts.countP Option.isSome
def FinM (pl : Nat → Pl) (t put b : Nat) (Y : Yd) (μ : Nat) : Prop := ∃ s tu,Stretch pl t put Y s tu ∧ busyN Y * (t * b + 1) + (t * b - tot s t) ≤ μ
section
variable {pl : Nat → Pl} {t n N put b μ : Nat} {Y : Yd}
theorem FinM.of (h : Books pl put Y (fun _=>0) (fun _=>0)) : FinM pl t put b Y (busyN Y * (t * b + 1) + t * b):=by
 refine ⟨fun _=>0,fun _=>0,⟨fun k T i hk=>?_,fun _=>Nat.zero_le _,fun k T i _ hu=>absurd hu (by decide),fun _ _=>⟨rfl,rfl⟩⟩, ?_⟩
 ·have h1:=h k T i hk
  have e : tot (fun _=>0) t - 0 = 0:=by rw [zDh (fun _=>rfl)]
  show OLeft (pl k) T Y.C put 0 (tot (fun _=>0) t - 0)
  rw [e]
  exact h1
 ·rw [zDh (fun _=>rfl)]
  omega
theorem zIL (ho : YOk pl t n Y) : busyN Y ≤ t:=by
 have:=List.countP_le_length (p:=Option.isSome) (l:=Y.ts)
 rw [ho.len] at this
 exact this
theorem zF7 {w : Nat} {a a' : Wk × Nat} (hw : Y.ts[w]? = some (some a)) : (Y.ts.set w (some a')).countP Option.isSome = busyN Y:=by
 obtain ⟨hl,he⟩:=List.getElem?_eq_some_iff.1 hw
 have hpos : 0 < Y.ts.countP Option.isSome:=List.countP_pos_iff.2 ⟨_,List.getElem_mem hl,by rw [he]; rfl⟩
 rw [List.countP_set hl,he]
 show Y.ts.countP Option.isSome - 1 + 1 = Y.ts.countP Option.isSome
 omega
theorem zHy {w : Nat} {a : Wk × Nat} (hw : Y.ts[w]? = some (some a)) : (Y.ts.set w none).countP Option.isSome + 1 = busyN Y:=by
 obtain ⟨hl,he⟩:=List.getElem?_eq_some_iff.1 hw
 have hpos : 0 < Y.ts.countP Option.isSome:=List.countP_pos_iff.2 ⟨_,List.getElem_mem hl,by rw [he]; rfl⟩
 rw [List.countP_set hl,he]
 show Y.ts.countP Option.isSome - 1 + 0 + 1 = Y.ts.countP Option.isSome
 omega
theorem FinM.step (h : FinM pl t put b Y μ) (ho : YOk pl t n Y) (hN : ∀ k,(pl k).N = N) (ht : 1 ≤ t) (h1 : put ≤ b) (h2 : t * (4 * N + 10) ≤ b) {w : Nat} {T : Wk} {i : Nat} {z : Int} (hw : Y.ts[w]? = some (some (T,i))) (ha : T.ask Y.C z) (hf : ∀ j,0 ≤ Y.C.getD j 0)
  {n' : Nat} (ho' : YOk pl t n' (Y.step (pl w) w T i z)) : ∃ μ',μ' < μ ∧ FinM pl t put b (Y.step (pl w) w T i z) μ':=by
 obtain ⟨s,tu,hS,hμ⟩:=h
 have hs:=hS.short ho hN ht h1 h2
 by_cases hp : (T.step (pl w) Y.C Y.now z).ph = 0
 ·obtain ⟨tu',hS',htot⟩:=hS.step ho hN hw ha hf hp
  have hs':=hS'.short ho' hN ht h1 h2
  refine ⟨busyN Y * (t * b + 1) + (t * b - tot s t) - 1,by omega,_,tu',hS', ?_⟩
  have e : busyN (Y.step (pl w) w T i z) = busyN Y:=by
   show (if (T.step (pl w) Y.C Y.now z).ph = 0 then Y.ts.set w (some (T.step (pl w) Y.C Y.now z,i)) else Y.ts.set w none).countP Option.isSome = _
   rw [if_pos hp]
   exact zF7 hw
  rw [e,htot]
  rw [htot] at hs'
  omega
 ·have e : busyN (Y.step (pl w) w T i z) + 1 = busyN Y:=by
   show (if (T.step (pl w) Y.C Y.now z).ph = 0 then Y.ts.set w (some (T.step (pl w) Y.C Y.now z,i)) else Y.ts.set w none).countP Option.isSome + 1 = _
   rw [if_neg hp]
   exact zHy hw
  refine ⟨busyN Y * (t * b + 1) + (t * b - tot s t) - 1, ?_,_,_,hS.ended ho hN hw ha hf, ?_⟩
  ·rw [← e,Nat.add_mul,Nat.one_mul] at hμ ⊢
   omega
  ·rw [← e,Nat.add_mul,Nat.one_mul,zDh (fun _=>rfl)]
   omega
end
inductive Tick (B : YB) (N : Nat) (Y0 : Yd) : Nat → Yd → Nat → Prop
 | zero : Tick B N Y0 0 Y0 0
 | skip {j : Nat} {Y : Yd} {s : Nat} (h : Tick B N Y0 j Y s) (hn : Y.ts[j % B.T]? = some none) : Tick B N Y0 (j + 1) Y s
 | step {j : Nat} {Y : Yd} {s : Nat} (h : Tick B N Y0 j Y s) (T : Wk) (i : Nat) (z : Int) (hk : Y.ts[j % B.T]? = some (some (T,i))) (ha : T.ask Y.C z) : Tick B N Y0 (j + 1) (Y.step (plOf B N (j % B.T)) (j % B.T) T i z) (s + 1)
section
variable {B B' : YB} {N : Nat} {Y0 Y Y' : Yd} {j s s' : Nat}
theorem Tick.like (h : Tick B N Y0 j Y s) (hB : B.like B') : Tick B' N Y0 j Y s:=by
 obtain ⟨yb,tb,p,c,t,st,so,d,T⟩:=B
 obtain ⟨yb',tb',p',c',t',st',so',d',T'⟩:=B'
 obtain ⟨h1,h2,h3,h4,h5⟩:=hB
 simp only at h1 h2 h3 h4 h5
 subst h1 h2 h3 h4 h5
 induction h with
 | zero=>exact .zero
 | skip h hn ih=>exact .skip ih hn
 | step h T i z hk ha ih=>exact .step ih T i z hk ha
end
end
section
open Go.RowKit
structure FnL (W w : World) (l : List Thing) (B : YB) (N : Nat) (Yf : Nat → Yd) (n : Nat) (Q b μ0 : Nat) (Y : Yd) (J : Nat → Nat) (j s : Nat) (Yg : Nat → Yd) (l0 : List Thing) (J0 : Nat → Nat) : Prop where
 yd : YdL W w l B N Y J (n + s)
 tr : YTr B N Yg (n + s)
 at' : Yg (n + s) = Y
 same : ∀ i,i ≤ n → Yg i = Yf i
 tick : Tick B N (Yf n) j Y s
 fin : ∃ μ,s + μ ≤ μ0 ∧ FinM (plOf B N) B.T Q b Y μ
 go : YGo (Yf n) Y l0 l J0 J
section
variable {W w w' : World} {l l' l0 : List Thing} {B : YB} {N n Q b μ0 j s : Nat} {Yf Yg : Nat → Yd} {Y : Yd} {J J' J0 : Nat → Nat}
theorem FnL.later (h : FnL W w l B N Yf n Q b μ0 Y J j s Yg l0 J0) (e : Below w.heap.size w w') : FnL W w' l B N Yf n Q b μ0 Y J j s Yg l0 J0:=⟨h.yd.later e,h.tr,h.at',h.same,h.tick,h.fin,h.go⟩
theorem FnL.start (h : YdL W w l B N (Yf n) J n) (ht : YTr B N Yf n) (hf : FinM (plOf B N) B.T Q b (Yf n) μ0) : FnL W w l B N Yf n Q b μ0 (Yf n) J 0 0 Yf l J :=
 ⟨h,ht,rfl,fun _ _=>rfl,.zero,⟨μ0,by omega,hf⟩,YGo.refl _ _ _⟩
theorem FnL.few (h : FnL W w l B N Yf n Q b μ0 Y J j s Yg l0 J0) : s ≤ μ0:=by obtain ⟨μ,h1,_⟩:=h.fin; omega
theorem FnL.skip (h : FnL W w l B N Yf n Q b μ0 Y J j s Yg l0 J0) {i r : Nat} (hj : j = r * B.T + i) (hi : i < B.T) (hn : Y.ts[i]? = some none) : FnL W w l B N Yf n Q b μ0 Y J (j + 1) s Yg l0 J0 :=
 ⟨h.yd,h.tr,h.at',h.same,.skip h.tick (by rw [hj,Nat.mul_comm r B.T,Nat.mul_add_mod,Nat.mod_eq_of_lt hi]; exact hn),h.fin,h.go⟩
theorem FnL.step (h : FnL W w l B N Yf n Q b μ0 Y J j s Yg l0 J0) {i r : Nat} (hj : j = r * B.T + i) (hi : i < B.T) (h1 : Q ≤ b) (h2 : B.T * (4 * N + 10) ≤ b) (hn : n + μ0 < 1000000) {T : Wk} {q : Nat} {z : Int} (hk : Y.ts[i]? = some (some (T,q))) (ha : T.ask Y.C z) (hl : YH W w' l' B (Y.step (plOf B N i) i T q z) J') (hg : YGo Y (Y.step (plOf B N i) i T q z) l l' J J') :
  ∃ Yg',FnL W w' l' B N Yf n Q b μ0 (Y.step (plOf B N i) i T q z) J' (j + 1) (s + 1) Yg' l0 J0:=by
 obtain ⟨μ,hμ,hF⟩:=h.fin
 have hlt:=h.yd.ok
 have hmv : YMv (plOf B N) Y (Y.step (plOf B N i) i T q z):=.step i T q z hk ha
 have hyd:=h.yd.next (by omega) hmv hl
 obtain ⟨μ',hμ',hF'⟩:=hF.step hlt (fun _=>rfl) (by omega) h1 h2 hk ha (fun j=>(h.yd.h.fit j).1) hyd.ok
 have hhow : YHow B N (Yg (n + s)) (Y.step (plOf B N i) i T q z):=by rw [h.at']; exact .step i T q z hk ha
 have htr:=h.tr.snoc hhow (by rw [h.at']; exact hmv) hyd.h.fit (by omega)
 refine ⟨fun k=>if k ≤ n + s then Yg k else Y.step (plOf B N i) i T q z,hyd,htr,if_neg (by omega),fun k hk=>?_, ?_,⟨μ',by omega,hF'⟩,h.go.trans hg⟩
 ·show (if k ≤ n + s then Yg k else _) = _
  rw [if_pos (by omega)]
  exact h.same k hk
 ·have e : i = j % B.T:=by rw [hj,Nat.mul_comm r B.T,Nat.mul_add_mod,Nat.mod_eq_of_lt hi]
  have:=Tick.step h.tick T q z (by rw [← e]; exact hk) ha
  rw [← e] at this
  exact this
end
def FinPost (W w : World) (l : List Thing) (B : YB) (N : Nat) (Yf : Nat → Yd) (n Q b μ0 : Nat) (J : Nat → Nat) (r : Ending) (w' : World) : Prop :=
 ∃ (s j : Nat) (l' : List Thing) (Y' : Yd) (J' : Nat → Nat) (Yg : Nat → Yd),r = .returned (i64 s) ∧ FnL W w' l' B N Yf n Q b μ0 Y' J' j s Yg l J ∧ ∀ k,k < B.T → Y'.ts[k]? = some none
theorem zGv {Y : Yd} {P : Pl} {k : Nat} {T : Wk} {i : Nat} {z : Int} {j : Nat} (hj : j ≠ k) : (Y.step P k T i z).ts[j]? = Y.ts[j]?:=by
 show (if _ then Y.ts.set k _ else Y.ts.set k _)[j]? = _
 split
 ·rw [List.getElem?_set_ne (fun e=>hj e.symm)]
 ·rw [List.getElem?_set_ne (fun e=>hj e.symm)]
theorem zIQ (t s so d : Int) (w : World) : (Instr.field 24 (cf t s so d) 0).run Tryz.prog w = .ok (i64 t) w:=by
 simp [Instr.field,go_sem,asAgg]
theorem zIc {W w : World} {l : List Thing} {B : YB} {N n Q b μ0 : Nat} {Yf : Nat → Yd} {J : Nat → Nat} (h : YdL W w l B N (Yf n) J n) (ht : YTr B N Yf n) (hf : FinM (plOf B N) B.T Q b (Yf n) μ0) (h1 : Q ≤ b) (h2 : B.T * (4 * N + 10) ≤ b) (hn : n + μ0 < 1000000) :
  Calls Tryz.prog 28 #[pt B.yb] w (FinPost W w l B N Yf n Q b μ0 J):=by
 have HF0:=zIn (FnL.start h ht hf)
 have HT:=zIn h.hT
 have hT64 : B.T ≤ 64:=by have:=h.cf.lay.t2; have:=h.hT; omega
 clear h ht hf
 go_enter Tryz.func28,Tryz.ntmps28
 go_wp2_with fail
 go_loopw [3,4] (fun sv bv wr => ∃ (r s : Nat) (bz : Bool) (lx : List Thing) (Y : Yd) (Jx : Nat → Nat) (Yg : Nat → Yd),sv = .int .i64 s ∧ bv = .bool bz ∧ Hid (FnL W wr lx B N Yf n Q b μ0 Y Jx (r * B.T) s Yg l J) ∧ Hid (bz = false → ∀ k,k < B.T → Y.ts[k]? = some none)) (fun sv bv _=>2 * (μ0 - (RowKit.intOf sv).toNat) + (match bv with | .bool true=>1 | _=>0))
 case atStart=>exact ⟨0,0,true,_,_,_,_,rfl,rfl,(by rw [Nat.zero_mul]; exact HF0),zIn (fun h=>by cases h)⟩
 case round =>
  clear HF0
  obtain ⟨r,s,bz,lx,Y,Jx,Yg,rfl,rfl,HF,HZ⟩:=hrel
  cases bz with
  | false =>
   go_wp2_with fail
   go_ret
   exact ⟨s,_,lx,Y,Jx,Yg,rfl,HF.out,HZ.out trivial⟩
  | true =>
   obtain ⟨v,vd,X,hA⟩:=HF.out.yd.h
   have HA:=zIn hA
   clear hA HZ
   go_wp2_with fail
   refine (zGH HA.out).mono ?_
   rintro r2 w2 ⟨rfl,hb⟩
   have HF2:=zIn (HF.out.later hb)
   have HS0 : Hid (s ≤ s):=zIn (Nat.le_refl _)
   clear hb HA HF
   have hfl:=zIQ B.t B.s B.so B.d w2
   go_wp2_with fail
   clear hfl
   go_loopw [3,4,10] (fun sv bv iv wx => ∃ (s' i : Nat) (bz : Bool) (ly : List Thing) (Y : Yd) (Jy : Nat → Nat) (Yg : Nat → Yd),i ≤ B.T ∧ s ≤ s' ∧ sv = .int .i64 s' ∧ bv = .bool bz ∧ iv = .int .i64 i ∧ Hid (FnL W wx ly B N Yf n Q b μ0 Y Jy (r * B.T + i) s' Yg l J) ∧ Hid (bz = true → s < s') ∧ Hid (bz = false → ∀ k,k < i → Y.ts[k]? = some none)) (fun _ _ iv _=>B.T - (RowKit.intOf iv).toNat)
   case atStart=>exact ⟨s,0,false,_,_,_,_,Nat.zero_le _,Nat.le_refl _,rfl,rfl,rfl,HF2,zIn (fun h=>by cases h),zIn (fun _ k hk=>absurd hk (Nat.not_lt_zero _))⟩
   case round =>
    clear HF2
    obtain ⟨s',i,bz,ly,Y,Jy,Yg,hi,hs,rfl,rfl,rfl,HF,HU,HV⟩:=hrel
    rcases Nat.lt_or_ge i B.T with hlt | hge
    ·have hi' : (i : Int) < B.t:=by have:=HT.out; omega
     go_wp2_with fail
     refine (zEG HF.out.yd.cf HF.out.yd.h HF.out.yd.ok (by have:=HF.out.few; omega) i).mono ?_
     rintro r2 w3 ⟨bs,l3,J3,Y3,rfl,hl3,hg3,h3⟩
     have HL:=zIn hl3
     have HG:=zIn hg3
     have H3:=zIn h3
     clear hl3 hg3 h3
     cases bs with
     | false =>
      have HI : Hid (Y.ts[i]? = some none):=zIn (by
       rcases H3.out with ⟨_,_,h5⟩ | ⟨h4,_⟩
       ·cases hq : Y.ts[i]? with
        | none =>
         rw [List.getElem?_eq_none_iff] at hq
         have:=HF.out.yd.ok.len
         omega
        | some a =>
         cases a with
         | none=>rfl
         | some a=>exact absurd hq (h5 i rfl a)
       ·cases h4)
      have HF3 : Hid (FnL W w3 l3 B N Yf n Q b μ0 Y J3 (r * B.T + (i + 1)) s' Yg l J):=zIn (by
       rcases H3.out with ⟨_,h4,_⟩ | ⟨h4,_⟩
       ·have hL:=HL.out
        have hG:=HG.out
        rw [h4] at hL hG
        have h:=HF.out.skip rfl hlt HI.out
        exact ⟨⟨hL,h.yd.ok,h.yd.len,h.yd.cf,h.yd.hT⟩,h.tr,h.at',h.same,h.tick,h.fin,h.go.trans hG⟩
       ·cases h4)
      clear HF HL HG H3
      cases bz with
      | true =>
       go_wp2_with fail
       go_roundw
       case rel=>exact ⟨s',i + 1,true,l3,Y,J3,Yg,by have:=HT.out; omega,hs,rfl,rfl,by go_num,HF3,zIn (fun _=>HU.out trivial),zIn (fun h=>by cases h)⟩
       case measure=>have:=HT.out; first | omega | (simp [RowKit.intOf]; done) | (simp [RowKit.intOf]; omega)
      | false =>
       go_wp2_with fail
       refine (HF3.out.yd.busy i false ⟨_,HI.out,rfl⟩).mono ?_
       rintro r2 w4 ⟨rfl,rfl⟩
       go_wp2_with fail
       go_roundw
       case rel=>exact ⟨s',i + 1,false,l3,Y,J3,Yg,by have:=HT.out; omega,hs,rfl,rfl,by go_num,HF3,zIn (fun h=>by cases h),zIn (fun _ k hk=>by
        by_cases e : k = i
        ·rw [e]; exact HI.out
        ·exact HV.out trivial k (by omega))⟩
       case measure=>have:=HT.out; first | omega | (simp [RowKit.intOf]; done) | (simp [RowKit.intOf]; omega)
     | true =>
      obtain ⟨T,q,z,HK,Yg3,HF3⟩ : ∃ (T : Wk) (q : Nat) (z : Int),Hid (Y.ts[i]? = some (some (T,q))) ∧ ∃ Yg3,Hid (FnL W w3 l3 B N Yf n Q b μ0 (Y.step (plOf B N i) i T q z) J3 (r * B.T + (i + 1)) (s' + 1) Yg3 l J):=by
       rcases H3.out with ⟨h4,_⟩ | ⟨_,k,T,q,z,h5,h6,h7,h8⟩
       ·cases h4
       ·obtain rfl : k = i:=by omega
        have hL:=HL.out
        have hG:=HG.out
        rw [h8] at hL hG
        obtain ⟨Yg3,h9⟩:=HF.out.step rfl hlt h1 h2 hn h6 h7 hL hG
        exact ⟨T,q,z,zIn h6,Yg3,zIn h9⟩
      obtain ⟨a,HA1⟩ : ∃ a,Hid ((Y.step (plOf B N i) i T q z).ts[i]? = some a):=by
       cases hq : (Y.step (plOf B N i) i T q z).ts[i]? with
       | none =>
        rw [List.getElem?_eq_none_iff] at hq
        have:=HF3.out.yd.ok.len
        omega
       | some a=>exact ⟨a,zIn rfl⟩
      have HV3 : Hid (bz = false → ∀ k,k < i → (Y.step (plOf B N i) i T q z).ts[k]? = some none):=zIn (fun hb k hk=>by
       rw [zGv (by omega)]
       exact HV.out hb k hk)
      have hsb : s' < 1000000:=by have:=HF3.out.few; omega
      generalize Y.step (plOf B N i) i T q z = Y4 at HF3 HA1 HV3
      clear HF HL HG H3 HV
      cases bz with
      | true =>
       go_wp2_with fail
       go_roundw
       case rel=>exact ⟨s' + 1,i + 1,true,l3,Y4,J3,Yg3,by have:=HT.out; omega,by omega,by go_num,rfl,by go_num,HF3,zIn (fun _=>by omega),zIn (fun h=>by cases h)⟩
       case measure=>have:=HT.out; first | omega | (simp [RowKit.intOf]; done) | (simp [RowKit.intOf]; omega)
      | false =>
       go_wp2_with fail
       refine (HF3.out.yd.busy i a.isSome ⟨_,HA1.out,rfl⟩).mono ?_
       rintro r2 w4 ⟨rfl,rfl⟩
       go_wp2_with fail
       go_roundw
       case rel=>exact ⟨s' + 1,i + 1,a.isSome,l3,Y4,J3,Yg3,by have:=HT.out; omega,by omega,by go_num,rfl,by go_num,HF3,zIn (fun _=>by omega),zIn (fun hz k hk=>by
        by_cases e : k = i
        ·rw [e,HA1.out]
         cases a with
         | none=>rfl
         | some a=>cases hz
        ·exact HV3.out trivial k (by omega))⟩
       case measure=>have:=HT.out; first | omega | (simp [RowKit.intOf]; done) | (simp [RowKit.intOf]; omega)
    ·obtain rfl : i = B.T:=by omega
     have hnn : ¬ (B.T : Int) < B.t:=by have:=HT.out; omega
     have hfew:=HF.out.few
     go_wp2_with fail
     go_roundw
     case rel=>exact ⟨r + 1,s',bz,ly,Y,Jy,Yg,rfl,rfl,(by rw [Nat.add_mul,Nat.one_mul]; exact HF),HV⟩
     case measure =>
      cases bz with
      | true =>
       have:=HU.out rfl
       simp [RowKit.intOf]
       omega
      | false =>
       simp [RowKit.intOf]
       omega
end
section
open Go.RowKit
theorem EncIs.yes {w' : World} {base : Nat} {t s so d : Int} {ms : List CM} {v : Value} {e : Int} (h : EncIs w' base t s so d ms v e) (hr : rightC t s so d = true) (hn : ms.length ≤ 65536) (hm : ∀ m ∈ ms,m.Right) : e = 0 ∧ Own8 w' base v ([t,s,so,d] ++ encs ms):=by
 cases h with
 | conf h=>rw [hr] at h; cases h
 | many _ h=>omega
 | arg _ _ h=>obtain ⟨m,h1,h2⟩:=h; exact absurd (hm m h1) h2
 | ok _ _ _ _ ho=>exact ⟨rfl,ho⟩
theorem zCB {a : Int} {l : List Int} (h0 : 0 ≤ a) (h1 : a ≤ 255) (hl : Byt l) : Byt (a :: l):=fun b hb=>by
 rcases List.mem_cons.1 hb with rfl | hb
 ·exact ⟨h0,h1⟩
 ·exact hl b hb
theorem zC3 {t s so d : Int} {ms : List CM} (hr : rightC t s so d = true) (hm : ∀ m ∈ ms,m.Right) : Byt ([t,s,so,d] ++ encs ms):=by
 have h:=of_decide_eq_true hr
 exact zCB (by omega) (by omega) (zCB (by omega) (by omega) (zCB (by omega) (by omega) (zCB (by omega) (by omega) (zEM hm))))
theorem DecIs.yes {l : List Int} {ms : List CM} {n e : Int} (h : DecIs l ms n e) (he : e = 0) : (∀ m ∈ ms,m.Good) ∧ ms.length ≤ 65536 ∧ l = encs ms:=by
 cases h with
 | ok _ h1 h2 h3=>exact ⟨h1,h2,h3⟩
 | form _ _ _ _ _ _ _=>exact absurd he (by decide)
 | many _ _ _ _ _ _ _=>exact absurd he (by decide)
theorem DecPost.yes {w' : World} {base : Nat} {l : List Int} {v : Value} {n e t s so d : Int} {ms : List CM} (h : DecPost w' base l v n e) (hl : l = t :: s :: so :: d :: encs ms) (hr : rightC t s so d = true) (hg : ∀ m ∈ ms,m.Good) (hn : ms.length ≤ 65536) :
  e = 0 ∧ n = (l.length : Int) ∧ ∃ A cp,v = scV t s so d (.slice A ms.length cp) ∧ w'.ownsRow base 39 7 (.slice A ms.length cp) ms.length (flatM ms):=by
 cases h with
 | short h =>
  rw [hl] at h
  simp at h
  omega
 | conf t' s' so' d' r' h hr' =>
  rw [hl] at h
  simp only [List.cons.injEq] at h
  obtain ⟨rfl,rfl,rfl,rfl,_⟩:=h
  rw [hr] at hr'
  cases hr'
 | bad t' s' so' d' r' n' e' h hr' hd he =>
  rw [hl] at h
  simp only [List.cons.injEq] at h
  obtain ⟨rfl,rfl,rfl,rfl,rfl⟩:=h
  exact absurd (hd.of hg hn).2.2 he
 | ok t' s' so' d' r' ms' A cp h hr' hd ho =>
  rw [hl] at h
  simp only [List.cons.injEq] at h
  obtain ⟨rfl,rfl,rfl,rfl,rfl⟩:=h
  obtain ⟨rfl,_⟩:=hd.of hg hn
  exact ⟨rfl,rfl,A,cp,rfl,ho⟩
end
section
open Go.RowKit
def lookF (B : YB) (N : Nat) (z : Nat → Int) (Y0 : Yd) : Nat → Yd × Nat
 | 0=>(Y0,0)
 | j + 1=>match (lookF B N z Y0 j).1.ts[j % B.T]? with
  | some (some (T,i))=>((lookF B N z Y0 j).1.step (plOf B N (j % B.T)) (j % B.T) T i (z j),(lookF B N z Y0 j).2 + 1)
  | _=>lookF B N z Y0 j
theorem Tick.look {B : YB} {N : Nat} {Y0 Y : Yd} {j s : Nat} {z : Nat → Int} (h : Tick B N Y0 j Y s)
  (hz : ∀ (j : Nat) (T : Wk) (i : Nat) (z' : Int),(lookF B N z Y0 j).1.ts[j % B.T]? = some (some (T,i)) → T.ask (lookF B N z Y0 j).1.C z' → T.step (plOf B N (j % B.T)) (lookF B N z Y0 j).1.C (lookF B N z Y0 j).1.now z' = T.step (plOf B N (j % B.T)) (lookF B N z Y0 j).1.C (lookF B N z Y0 j).1.now (z j)) :
  lookF B N z Y0 j = (Y,s):=by
 induction h with
 | zero=>rfl
 | @skip j Y s h hn ih =>
  show (match (lookF B N z Y0 j).1.ts[j % B.T]? with
   | some (some (T,i))=>((lookF B N z Y0 j).1.step (plOf B N (j % B.T)) (j % B.T) T i (z j),(lookF B N z Y0 j).2 + 1)
   | _=>lookF B N z Y0 j) = _
  rw [ih]
  simp only
  rw [hn]
 | @step j Y s h T i z' hk ha ih =>
  have e:=hz j T i z' (by rw [ih]; exact hk) (by rw [ih]; exact ha)
  show (match (lookF B N z Y0 j).1.ts[j % B.T]? with
   | some (some (T,i))=>((lookF B N z Y0 j).1.step (plOf B N (j % B.T)) (j % B.T) T i (z j),(lookF B N z Y0 j).2 + 1)
   | _=>lookF B N z Y0 j) = _
  rw [ih] at e ⊢
  simp only at e ⊢
  rw [hk]
  simp only
  unfold Yd.step
  rw [e]
theorem zD9 {B : YB} {N : Nat} {Y0 : Yd} {z : Nat → Int} {q : Nat} (h : ∀ a,a ∈ (lookF B N z Y0 q).1.ts → a = none) : ∀ k,lookF B N z Y0 (q + k) = lookF B N z Y0 q
 | 0=>rfl
 | k + 1=>by
  have ih:=zD9 h k
  show (match (lookF B N z Y0 (q + k)).1.ts[(q + k) % B.T]? with
   | some (some (T,i))=>((lookF B N z Y0 (q + k)).1.step (plOf B N ((q + k) % B.T)) ((q + k) % B.T) T i (z (q + k)),(lookF B N z Y0 (q + k)).2 + 1)
   | _=>lookF B N z Y0 (q + k)) = _
  rw [ih]
  cases hq : (lookF B N z Y0 q).1.ts[(q + k) % B.T]? with
  | none=>rfl
  | some a =>
   have:=h a (List.mem_of_getElem? hq)
   subst this
   rfl
theorem FinM.mono {pl : Nat → Pl} {t put b μ μ' : Nat} {Y : Yd} (h : FinM pl t put b Y μ) (hm : μ ≤ μ') : FinM pl t put b Y μ':=by
 obtain ⟨s,tu,h1,h2⟩:=h
 exact ⟨s,tu,h1,Nat.le_trans h2 hm⟩
theorem zGk (w : Nat) : updN (fun _=>0) w 0 = fun _=>0:=funext (fun k=>by unfold updN; split <;> rfl)
theorem YTr.books {B : YB} {N m Q : Nat} {Y : Nat → Yd} (h : YTr B N Y m) (hQ : B.s * (B.t + 1) + most B.t B.so B.d + 2 = (Q : Int)) : ∀ i,i ≤ m → Books (plOf B N) Q (Y i) (fun _=>0) (fun _=>0)
 | 0,_=>Books.none (fun k a hk=>by
  rw [h.zero] at hk
  have hk' : (List.replicate B.T (none : Option (Wk × Nat)))[k]? = some (some a):=hk
  rw [List.getElem?_replicate] at hk'
  split at hk' <;> cases hk')
 | i + 1,hi=>by
  have ih:=YTr.books h hQ i (by omega)
  have hok:=(h.all i (by omega)).ok
  have hw:=h.how i (by omega)
  generalize Y (i + 1) = Z at hw
  cases hw with
  | rest=>exact ih
  | call w take kd e x s hq he hk =>
   have h1:=ih.call (kd:=kd) (e:=e) (x:=x) (s:=s) hq (OLeft.begun (who:=(w : Int)) (e:=e) (x:=x) (start:=s) (m:=(w : Int) * B.s) (nb:=2 * N + B.T) (h0:=2 * N) (hw:=2 * N + w) (C:=(Y i).C) take h.cf.lay hQ)
   rw [zGk] at h1
   exact h1
  | step w T i2 z hq ha =>
   obtain ⟨_,g2⟩:=ih.step hok (fun _=>rfl) hq ha (fun j=>(h.fit i (by omega) j).1) (dl:=1) (.inr (Nat.le_refl _))
   exact fun k T' i' hk=>(g2 k T' i' hk).again.more (Nat.zero_le _)
  | pass k hk=>exact ih
structure Fin4 (W w : World) (l : List Thing) (B : YB) (N : Nat) (Yf : Nat → Yd) (n : Nat) (J : Nat → Nat) (w' : World) (s j : Nat) (l' : List Thing) (Y' : Yd) (J' : Nat → Nat) (Yg : Nat → Yd) : Prop where
 yd : YdL W w' l' B N Y' J' (n + s)
 tr : YTr B N Yg (n + s)
 at' : Yg (n + s) = Y'
 same : ∀ i,i ≤ n → Yg i = Yf i
 tick : Tick B N (Yf n) j Y' s
 few : s ≤ 5924
 go : YGo (Yf n) Y' l l' J J'
 idle : ∀ k,k < B.T → Y'.ts[k]? = some none
theorem zBP {W w : World} {l : List Thing} {B : YB} {N n : Nat} {Yf : Nat → Yd} {J : Nat → Nat} (h : YdL W w l B N (Yf n) J n) (ht : YTr B N Yf n) (hn : n < 990000) (t4 : B.T ≤ 4) (n16 : N ≤ 16) (s4 : B.s ≤ 4) (d3 : B.d ≤ 3) :
  Calls Tryz.prog 28 #[pt B.yb] w fun r w' => ∃ (s j : Nat) (l' : List Thing) (Y' : Yd) (J' : Nat → Nat) (Yg : Nat → Yd),r = .returned (i64 s) ∧ Fin4 W w l B N Yf n J w' s j l' Y' J' Yg:=by
 have hT:=h.hT
 have hs1:=h.cf.lay.s1
 have ht1:=h.cf.lay.t1
 have hd0:=h.cf.d0
 have hm : 0 ≤ most B.t B.so B.d ∧ most B.t B.so B.d ≤ 6:=by
  unfold most
  repeat' split
  all_goals omega
 have hst : 0 ≤ B.s * (B.t + 1) ∧ B.s * (B.t + 1) ≤ 20:=⟨Int.mul_nonneg (by omega) (by omega),by
  have h1 : B.s * (B.t + 1) ≤ 4 * (B.t + 1):=Int.mul_le_mul_of_nonneg_right s4 (by omega)
  omega⟩
 obtain ⟨Q,hQ⟩ : ∃ Q : Nat,B.s * (B.t + 1) + most B.t B.so B.d + 2 = (Q : Int):=⟨(B.s * (B.t + 1) + most B.t B.so B.d + 2).toNat,by omega⟩
 have hbk:=ht.books hQ n (Nat.le_refl _)
 have hbu:=zIL h.ok
 have hf : FinM (plOf B N) B.T Q 296 (Yf n) 5924:=(FinM.of (t:=B.T) (b:=296) hbk).mono (by
  have h1 : busyN (Yf n) * (B.T * 296 + 1) ≤ 4 * (4 * 296 + 1):=Nat.mul_le_mul (by omega) (by omega)
  omega)
 have h2 : B.T * (4 * N + 10) ≤ 296:=Nat.le_trans (Nat.mul_le_mul t4 (show 4 * N + 10 ≤ 74 by omega)) (by decide)
 refine (zIc h ht hf (by omega) h2 (by omega)).mono ?_
 rintro r w' ⟨s,j,l',Y',J',Yg,rfl,h3,h4⟩
 exact ⟨s,j,l',Y',J',Yg,rfl,h3.yd,h3.tr,h3.at',h3.same,h3.tick,h3.few,h3.go,h4⟩
theorem zF8 {B : YB} {N : Nat} {Y Y' : Yd} {k : Nat} {e x a : Int} (h : PDo B N ⟨0,k,0,e,x,0,0⟩ Y Y' a) (hk : (k : Int) < B.t) (he : e = 0 ∨ e = 1) (hq : Y.ts[k]? = some Option.none) : a = 0 ∧ Y' = Y.call k 0 e x 0 (wkB B N k false e x 0):=by
 have ha : CM.asks ⟨0,k,0,e,x,0,0⟩:=⟨.inl rfl,he⟩
 cases h with
 | out h hw =>
  rcases hw with hw | hw | hw
  ·have hw' : (k : Int) < 0:=hw
   omega
  ·have hw' : B.t ≤ (k : Int):=hw
   omega
  ·exact absurd ha hw
 | busy k' a' h hw ha' hb =>
  have hw' : (k : Int) = k':=hw
  obtain rfl : k = k':=by omega
  rw [hq] at hb
  cases hb
 | call k' take h hw hk' he' hq' =>
  have hw' : (k : Int) = k':=hw
  obtain rfl : k = k':=by omega
  cases take with
  | false=>exact ⟨rfl,rfl⟩
  | true=>exact absurd (show (1 : Int) = 0 from hk') (by decide)
 | none h=>exact absurd (show (0 : Int) = 1 from h) (by decide)
 | step k' T i z h=>exact absurd h (by show ¬ (0 : Int) = 1; decide)
 | pass h=>exact absurd h (by show ¬ (0 : Int) = 2; decide)
 | still h=>exact absurd h (by show ¬ (0 : Int) = 2; decide)
 | other h0=>exact absurd rfl h0
end
section
open Go.RowKit
structure PBy (w : World) (l : List Int) (r : Ending) (w' : World) (T : Nat) (s so d : Int) (N : Nat) (ms : List CM) (W : World) (lx : List Thing) (yb ytb p c : Nat) (Yf : Nat → Yd) (An : List Int) (J : Nat → Nat) (g : Nat) : Prop where
 is : l = (T : Int) :: s :: so :: d :: encs ms
 good : ∀ m ∈ ms,m.Good
 few : ms.length ≤ 65536
 right : rightC T s so d = true
 lay : Lay T s N
 ret : r = .returned (.tuple #[pt yb,.slice (some ⟨g,0,none⟩) ms.length ms.length,i64 0])
 below : Below w.heap.size w W
 run : PRn W w' lx ⟨yb,ytb,p,c,T,s,so,d,T⟩ N ms Yf An J g
theorem zDJ (A : Option Addr) (l : List Int) (cap : Nat) (w : World) (h : IsAt w A (l.map u8)) (hb : Byt l) (hc : l.length ≤ cap) (hf : l.length ≤ 1000000) :
  Calls Tryz.prog 17 #[.slice A l.length cap] w fun r w' =>
   (∃ w1 v n e,DecPost w1 w.heap.size l v n e ∧ e ≠ 0 ∧ r = .returned (.tuple #[.pointer none,.slice none 0 0,i64 e]) ∧ Below w.heap.size w w') ∨
   (∃ T s so d N ms W lx yb ytb p c Yf An J g,PBy w l r w' T s so d N ms W lx yb ytb p c Yf An J g):=by
 have HD:=zIn (zFR A l cap w h hb hc hf)
 clear h hb hc hf
 go_enter Tryz.func17,Tryz.ntmps17
 go_wp2_with fail
 refine HD.out.mono ?_
 rintro r w2 ⟨v,n,e,rfl,hb2,hD⟩
 have HB2:=zIn hb2
 clear hb2 HD
 cases hD with
 | short h =>
  go_wp2_with fail
  exact bodyPost_ret (v:=.tuple #[.pointer none,.slice none 0 0,i64 3]) (by simp [results,Tryz.results17,go_sem]) rfl (.inl ⟨w2,_,_,3,.short h,by decide,rfl,zAA HB2.out _⟩)
 | conf t s so d r h hr =>
  have H:=zIn (And.intro h hr)
  clear h hr
  go_wp2_with fail
  exact bodyPost_ret (v:=.tuple #[.pointer none,.slice none 0 0,i64 1]) (by simp [results,Tryz.results17,go_sem]) rfl (.inl ⟨w2,_,_,1,.conf t s so d r H.out.1 H.out.2,by decide,rfl,zAA HB2.out _⟩)
 | bad t s so d r n e h hr hd he =>
  have H:=zIn (And.intro h (And.intro hr hd))
  have e0 : (e == 0) = false:=beq_false_of_ne he
  clear h hr hd
  go_wp2_with fail
  exact bodyPost_ret (v:=.tuple #[.pointer none,.slice none 0 0,i64 e]) (by simp [results,Tryz.results17,go_sem]) rfl (.inl ⟨w2,_,_,e,.bad t s so d r n e H.out.1 H.out.2.1 H.out.2.2 he,he,rfl,zAA HB2.out _⟩)
 | ok t s so d r ms A1 cp h hr hd ho =>
  obtain ⟨hg,hm,rfl⟩:=hd.yes rfl
  obtain ⟨T,N,rfl,hlay,o0,o1,d0,d1⟩:=zFG hr
  have H:=zIn (And.intro h (And.intro hr (And.intro hg (And.intro hm hlay))))
  have HI2:=zIn ((IsAt.own ho).later (zAA (Below.refl _ _) (.cells #[.int .i64 T,.int .i64 s,.int .i64 so,.int .i64 d,.slice A1 ms.length cp] 29)))
  have HB3:=zIn (zAA HB2.out (.cells #[.int .i64 T,.int .i64 s,.int .i64 so,.int .i64 d,.slice A1 ms.length cp] 29))
  have hm2 : ms.length < 900000:=by omega
  clear h hr hg hm hlay ho hd
  go_wp2_with fail
  refine (zHT T s so d N A1 cp ms _ HI2.out (fun m hm=>(H.out.2.2.1 m hm).2) hm2 H.out.2.2.2.2 o0 o1 d0 d1).mono ?_
  rintro r w4 ⟨W,lx,yb,ytb,p,c,Yf,An,J,g,rfl,hb,hP⟩
  have HZ:=zIn (zAE HB3.out hb)
  have HP:=zIn hP
  clear hb hP
  go_wp2_with fail
  exact bodyPost_ret (v:=.tuple #[pt yb,.slice (some ⟨g,0,none⟩) ms.length ms.length,i64 0]) (by simp [results,Tryz.results17,go_sem]) rfl (.inr ⟨T,s,so,d,N,ms,W,lx,yb,ytb,p,c,Yf,An,J,g,H.out.1,H.out.2.2.1,H.out.2.2.2.1,H.out.2.1,H.out.2.2.2.2,rfl,HZ.out,HP.out⟩)
end
section
open Go.RowKit
def wasRead (N st r j : Nat) : Prop := ∃ q,q < r ∧ (st + q) % N = j
theorem zEk {N st r j : Nat} (hs : st < N) (hr : r + 1 = N) (hj : j < N) : wasRead N st r j ∨ j = (st + r) % N:=by
 by_cases h1 : st ≤ j
 ·by_cases h2 : j - st = r
  ·right
   rw [show st + r = j by omega,Nat.mod_eq_of_lt hj]
  ·exact .inl ⟨j - st,by omega,by rw [show st + (j - st) = j by omega,Nat.mod_eq_of_lt hj]⟩
 ·have e : (st + (j + N - st)) % N = j:=by rw [show st + (j + N - st) = j + N by omega,Nat.add_mod_right,Nat.mod_eq_of_lt hj]
  by_cases h2 : j + N - st = r
  ·right
   rw [← h2,e]
  ·exact .inl ⟨j + N - st,by omega,e⟩
structure SnM (Y : Nat → Yd) (N : Nat) (k : Sn) (f b : Nat) : Prop where
 ex : ∃ st r P c,SnAt k N st r P ∧ k.ph = 0 ∧ f ≤ c ∧ c ≤ b ∧
  (∀ j,j < N → wasRead N st r j → ∃ a,c ≤ a ∧ a ≤ b ∧ k.X.getD j 0 = (Y a).C.getD j 0) ∧
  (∀ j,j < N → 1 ≤ P → (wasRead N st r j → k.turned = false) → ∃ a,f ≤ a ∧ a ≤ c ∧ k.X.getD j 0 = (Y a).C.getD j 0)
section
variable {Y : Nat → Yd} {N f b : Nat} {k : Sn}
theorem SnM.later (h : SnM Y N k f b) : SnM Y N k f (b + 1):=by
 obtain ⟨st,r,P,c,h1,h2,h3,h4,h5,h6⟩:=h.ex
 exact ⟨st,r,P,c,h1,h2,h3,by omega,fun j hj hr=>by obtain ⟨a,a1,a2,a3⟩:=h5 j hj hr; exact ⟨a,a1,by omega,a3⟩,h6⟩
theorem SnM.start (t s so d who : Int) (st : Nat) (hs : st < N) (hf : f ≤ b) : SnM Y N (sn0 t s so d who st N) f b :=
 ⟨st,0,0,b,zH2 t s so d who N st hs,rfl,hf,Nat.le_refl _,fun j hj ⟨q,hq,_⟩=>by omega,fun j hj hP=>by omega⟩
theorem SnM.step (h : SnM Y N k f b) (hst : ∀ {j : Nat},j < N → ∀ {a c e : Nat},a ≤ c → c ≤ e → e ≤ b → (Y a).C.getD j 0 = (Y e).C.getD j 0 → (Y c).C.getD j 0 = (Y a).C.getD j 0) :
  SnM Y N (k.step (Y b).C) f (b + 1) ∨ ((k.step (Y b).C).ph = 1 ∧ (k.step (Y b).C).X.length = N ∧ ∃ c,f ≤ c ∧ c ≤ b ∧ ∀ j,j < N → (k.step (Y b).C).X.getD j 0 = (Y c).C.getD j 0):=by
 obtain ⟨st,r,P,c,h1,h2,h3,h4,h5,h6⟩:=h.ex
 have hsl:=h1.slot
 have hlt:=h1.slot_lt
 have hX:=h1.X
 have hr1:=h1.r1
 have row : ∀ j,(k.X.set k.slot ((Y b).C.getD k.slot 0)).getD j 0 = if j = (st + r) % N then (Y b).C.getD j 0 else k.X.getD j 0:=fun j=>by
  rw [zB6 _ _ _ _ (by omega),hsl]
  by_cases hq : (st + r) % N = j
  ·rw [if_pos hq,if_pos hq.symm,hq]
  ·rw [if_neg hq,if_neg (fun e=>hq e.symm)]
 have turned : (k.turned || decide ((Y b).C.getD k.slot 0 ≠ k.X.getD k.slot 0)) = false → k.turned = false ∧ (Y b).C.getD ((st + r) % N) 0 = k.X.getD ((st + r) % N) 0:=fun hq=>by
  rw [Bool.or_eq_false_iff] at hq
  refine ⟨hq.1, ?_⟩
  have h7:=of_decide_eq_false hq.2
  rw [hsl] at h7
  exact Classical.not_not.1 h7
 have cur : ∀ j,j < N → (wasRead N st r j ∨ j = (st + r) % N) → ∃ a,c ≤ a ∧ a ≤ b ∧ (k.X.set k.slot ((Y b).C.getD k.slot 0)).getD j 0 = (Y a).C.getD j 0:=fun j hj hw=>by
  rw [row j]
  by_cases hq : j = (st + r) % N
  ·rw [if_pos hq]
   exact ⟨b,h4,Nat.le_refl _,rfl⟩
  ·rw [if_neg hq]
   rcases hw with hw | hw
   ·exact h5 j hj hw
   ·exact absurd hw hq
 have old : ∀ j,j < N → 1 ≤ P → ((wasRead N st r j ∨ j = (st + r) % N) → (k.turned || decide ((Y b).C.getD k.slot 0 ≠ k.X.getD k.slot 0)) = false) → ∃ a,f ≤ a ∧ a ≤ c ∧ (k.X.set k.slot ((Y b).C.getD k.slot 0)).getD j 0 = (Y a).C.getD j 0:=fun j hj hP ht=>by
  rw [row j]
  by_cases hq : j = (st + r) % N
  ·rw [if_pos hq]
   obtain ⟨t1,t2⟩:=turned (ht (.inr hq))
   rw [hq,t2]
   exact h6 _ (by omega) hP (fun _=>t1)
  ·rw [if_neg hq]
   exact h6 j hj hP (fun hw=>(turned (ht (.inl hw))).1)
 have hread : k.read = (r : Int):=h1.read
 have hkN : (k.N : Int) = (N : Int):=by rw [h1.hN]
 by_cases hlast : r + 1 = N
 ·have e : k.step (Y b).C = (k.put ((Y b).C.getD k.slot 0)).fin:=by
   unfold Sn.step
   rw [if_pos h2,if_pos (by omega)]
  have hall : ∀ j,j < N → (wasRead N st r j ∨ j = (st + r) % N):=fun j hj=>zEk h1.s1 hlast hj
  rw [e]
  have hpass:=h1.passes
  by_cases hend : 1 < k.passes + 1 ∧ (k.turned || decide ((Y b).C.getD k.slot 0 ≠ k.X.getD k.slot 0)) = false
  ·right
   refine ⟨by show (if 1 < k.passes + 1 ∧ (k.turned || decide ((Y b).C.getD k.slot 0 ≠ k.X.getD k.slot 0)) = false then (1 : Int) else k.ph) = 1; rw [if_pos hend],by show (k.X.set _ _).length = N; rw [List.length_set]; exact hX,c,h3,h4,fun j hj=>?_⟩
   obtain ⟨a1,p1,p2,p3⟩:=cur j hj (hall j hj)
   obtain ⟨a2,q1,q2,q3⟩:=old j hj (by omega) (fun _=>hend.2)
   have hh:=hst hj q2 p1 p2 (q3.symm.trans p3)
   show (k.X.set k.slot ((Y b).C.getD k.slot 0)).getD j 0 = _
   rw [hh]
   exact q3
  ·left
   refine ⟨st,0,P + 1,b + 1,⟨h1.hN,h1.start,rfl,by show k.passes + 1 = ((P + 1 : Nat) : Int); omega,by show (k.X.set _ _).length = N; rw [List.length_set]; exact hX,h1.s1,by omega⟩, ?_,by omega,Nat.le_refl _,fun j hj ⟨q,hq,_⟩=>by omega,fun j hj _ _=>?_⟩
   ·show (if 1 < k.passes + 1 ∧ (k.turned || decide ((Y b).C.getD k.slot 0 ≠ k.X.getD k.slot 0)) = false then (1 : Int) else k.ph) = 0
    rw [if_neg hend]
    exact h2
   ·obtain ⟨a1,p1,p2,p3⟩:=cur j hj (hall j hj)
    exact ⟨a1,by omega,by omega,p3⟩
 ·have e : k.step (Y b).C = k.put ((Y b).C.getD k.slot 0):=by
   unfold Sn.step
   rw [if_pos h2,if_neg (by omega)]
  left
  rw [e]
  have hwr : ∀ j,wasRead N st (r + 1) j → wasRead N st r j ∨ j = (st + r) % N:=fun j ⟨q,hq,he⟩=>by
   by_cases hqr : q = r
   ·exact .inr (by rw [← he,hqr])
   ·exact .inl ⟨q,by omega,he⟩
  have hrw : ∀ j,(wasRead N st r j ∨ j = (st + r) % N) → wasRead N st (r + 1) j:=fun j hw=>by
   rcases hw with ⟨q,hq,he⟩ | hw
   ·exact ⟨q,by omega,he⟩
   ·exact ⟨r,by omega,hw.symm⟩
  refine ⟨st,r + 1,P,c,⟨h1.hN,h1.start,by show k.read + 1 = ((r + 1 : Nat) : Int); omega,h1.passes,by show (k.X.set _ _).length = N; rw [List.length_set]; exact hX,h1.s1,by omega⟩,h2,h3,by omega,fun j hj hw=>?_,fun j hj hP ht=>?_⟩
  ·obtain ⟨a,a1,a2,a3⟩:=cur j hj (hwr j hw)
   exact ⟨a,a1,by omega,a3⟩
  ·exact old j hj hP (fun hw=>ht (hrw j hw))
end
end
section
open Go.RowKit
def Got (Y : Nat → Yd) (N w i : Nat) (e : Int) (f b : Nat) (v : Int) : Prop :=
 ∃ c u s j : Nat,f ≤ c ∧ c ≤ u ∧ u ≤ s ∧ s < b ∧ j < N ∧ IsEnd ((Y c).C.take N) e j ∧ (Y s).C.getD j 0 = (Y c).C.getD j 0 ∧ (Y (s + 1)).C.getD j 0 = tkW ((Y c).C.getD j 0) ∧
  v = (Y u).C.getD (N + j) 0 ∧ (∃ k,(Y s).ts[w]? = some (some (.ge k,i))) ∧ (Y (s + 1)).ts[w]? ≠ (Y s).ts[w]?
structure TaM (Y : Nat → Yd) (N w i : Nat) (e : Int) (f b : Nat) (a : Ta) : Prop where
 at' : ∃ c j : Nat,f ≤ c ∧ c < b ∧ j < N ∧ a.slot = j ∧ IsEnd ((Y c).C.take N) e j ∧ a.word = (Y c).C.getD j 0 ∧ (a.next = 3 → a.lost = false → ∃ u,c ≤ u ∧ u < b ∧ a.value = (Y u).C.getD (N + j) 0)
 got : a.next = 4 → a.lost = false → Got Y N w i e f b a.value
structure GetM (Y : Nat → Yd) (N w i : Nat) (d : Dd) (k : Ge) (b : Nat) : Prop where
 e : k.e = d.e
 ex : ∃ f,d.fr < (Y f).moves ∧ f ≤ b ∧ (k.ta = none → SnM Y N k.sn f b) ∧ ∀ a,k.ta = some a → TaM Y N w i k.e f b a
structure GetD (Y : Nat → Yd) (N i : Nat) (d : Dd) (b : Nat) : Prop where
 ok : d.ok = true → ∃ w f b' : Nat,d.who = w ∧ d.fr < (Y f).moves ∧ b' ≤ b ∧ (Y b').moves ≤ d.till ∧ Got Y N w i d.e f b' d.v
 no : d.ok = false → ∃ f c b' : Nat,d.fr < (Y f).moves ∧ f ≤ c ∧ c ≤ b' ∧ b' ≤ b ∧ (Y b').moves ≤ d.till ∧ IsEnd ((Y c).C.take N) d.e (-1)
structure GTr (Y : Nat → Yd) (N b : Nat) : Prop where
 run : ∀ (w : Nat) (k : Ge) (i : Nat) (d : Dd),(Y b).ts[w]? = some (some (.ge k,i)) → (Y b).ds[i]? = some d → GetM Y N w i d k b
 done : ∀ (i : Nat) (d : Dd),(Y b).ds[i]? = some d → d.kd = 1 → d.till ≠ -1 → GetD Y N i d b
section
variable {Y : Nat → Yd} {N w i f b : Nat} {e v : Int} {d : Dd} {k : Ge}
theorem Got.later (h : Got Y N w i e f b v) : Got Y N w i e f (b + 1) v:=by
 obtain ⟨c,u,s,j,h1,h2,h3,h4,h5⟩:=h
 exact ⟨c,u,s,j,h1,h2,h3,by omega,h5⟩
theorem TaM.later {a : Ta} (h : TaM Y N w i e f b a) : TaM Y N w i e f (b + 1) a:=by
 obtain ⟨c,j,h1,h2,h3,h4,h5,h6,h7⟩:=h.at'
 exact ⟨⟨c,j,h1,by omega,h3,h4,h5,h6,fun p q=>by obtain ⟨u,u1,u2,u3⟩:=h7 p q; exact ⟨u,u1,by omega,u3⟩⟩,fun p q=>(h.got p q).later⟩
theorem GetM.later (h : GetM Y N w i d k b) : GetM Y N w i d k (b + 1):=by
 obtain ⟨f,h1,h2,h3,h4⟩:=h.ex
 exact ⟨h.e,f,h1,by omega,fun p=>(h3 p).later,fun a p=>(h4 a p).later⟩
theorem GetD.later (h : GetD Y N i d b) : GetD Y N i d (b + 1) :=
 ⟨fun p=>by obtain ⟨w,f,b',h1,h2,h3,h4⟩:=h.ok p; exact ⟨w,f,b',h1,h2,by omega,h4⟩,
  fun p=>by obtain ⟨f,c,b',h1,h2,h3,h4,h5⟩:=h.no p; exact ⟨f,c,b',h1,h2,h3,by omega,h5⟩⟩
theorem zDd {X C : List Int} (hX : X.length = N) (hC : N ≤ C.length) (h : ∀ j,j < N → X.getD j 0 = C.getD j 0) : X = C.take N:=by
 apply List.ext_getElem
 ·rw [hX,List.length_take]
  omega
 ·intro j h1 h2
  have:=h j (by omega)
  rw [List.getD_eq_getElem?_getD,List.getD_eq_getElem?_getD,List.getElem?_eq_getElem h1,List.getElem?_eq_getElem (by omega)] at this
  rw [List.getElem_take]
  exact this
theorem IsEnd.place {ws : List Int} {z : Int} (h : IsEnd ws e z) : z = -1 ∨ ∃ j : Nat,z = j ∧ j < ws.length:=by
 rcases h with ⟨h,_⟩ | ⟨j,h,h1,_⟩
 ·exact .inl h
 ·exact .inr ⟨j,h,h1⟩
def GetTo (Y : Nat → Yd) (N w i : Nat) (d : Dd) (b : Nat) (k : Ge) : Prop :=
 (k.ph = 0 → GetM Y N w i d k (b + 1)) ∧ (k.ph = 1 → ∃ f,d.fr < (Y f).moves ∧ Got Y N w i d.e f b k.val) ∧ (k.ph ≠ 0 → k.ph ≠ 1 → ∃ f c,d.fr < (Y f).moves ∧ f ≤ c ∧ c ≤ b ∧ IsEnd ((Y c).C.take N) d.e (-1))
theorem GetM.step {B : YB} {z : Int} (h : GetM Y N w i d k b) (hF : GFacts B N (Y b).C w k) (ha : k.ask (Y b).C z) (hw : (Y b).ts[w]? = some (some (.ge k,i))) (hlen : ∀ c,c ≤ b → N ≤ (Y c).C.length)
  (hC : (Y (b + 1)).C = k.cells N (2 * N + w) (Y b).C) (ht : (Y (b + 1)).ts[w]? = if (k.step N (2 * N + w) (Y b).C z).ph = 0 then some (some (.ge (k.step N (2 * N + w) (Y b).C z),i)) else some none)
  (hst : ∀ {j : Nat},j < N → ∀ {a c e : Nat},a ≤ c → c ≤ e → e ≤ b → (Y a).C.getD j 0 = (Y e).C.getD j 0 → (Y c).C.getD j 0 = (Y a).C.getD j 0) :
  GetTo Y N w i d b (k.step N (2 * N + w) (Y b).C z):=by
 unfold GetTo
 obtain ⟨f,h1,h2,h3,h4⟩:=h.ex
 have he:=h.e
 have hp:=hF.ph
 have hnp : ¬ k.ph ≠ 0:=by omega
 cases hta : k.ta with
 | none =>
  have e1 : k.step N (2 * N + w) (Y b).C z = k.read (k.sn.step (Y b).C) z:=by unfold Ge.step; rw [if_neg hnp,hta]
  rcases (h3 hta).step hst with hs | ⟨hs1,hs2,c,c1,c2,c3⟩
  ·have hs0 : (k.sn.step (Y b).C).ph = 0:=by obtain ⟨_,_,_,_,_,q,_⟩:=hs.ex; exact q
   have e2 : k.read (k.sn.step (Y b).C) z = { k with sn:=k.sn.step (Y b).C }:=by unfold Ge.read; rw [if_pos (by omega)]
   rw [e1,e2]
   refine ⟨fun _=>⟨he,f,h1,by omega,fun _=>hs,fun a haa=>?_⟩,fun q=>?_,fun q=>absurd hp q⟩
   ·have haa' : k.ta = some a:=haa
    rw [hta] at haa'
    cases haa'
   ·have q' : k.ph = 1:=q
    omega
  ·have hz:=ha hp hta hs1
   rw [zDd hs2 (hlen c c2) c3] at hz
   by_cases hneg : z < 0
   ·have e2 : k.read (k.sn.step (Y b).C) z = { k with sn:=k.sn.step (Y b).C,ph:=2 }:=by unfold Ge.read; rw [if_neg (fun q=>q hs1),if_pos hneg]
    rw [e1,e2]
    refine ⟨fun q=>absurd q (by show ¬ (2 : Int) = 0; decide),fun q=>absurd q (by show ¬ (2 : Int) = 1; decide),fun _ _=>⟨f,c,h1,c1,c2, ?_⟩⟩
    rcases hz.place with q | ⟨j,q,_⟩
    ·rw [← q, ← he]
     exact hz
    ·omega
   ·have e2 : k.read (k.sn.step (Y b).C) z = { k with sn:=k.sn.step (Y b).C,ta:=some (ta0 k.t k.s k.so k.d k.who z ((k.sn.step (Y b).C).X.getD z.toNat 0)) }:=by unfold Ge.read; rw [if_neg (fun q=>q hs1),if_neg hneg]
    rw [e1,e2]
    refine ⟨fun _=>⟨he,f,h1,by omega,fun q=>(by cases q),fun a haa=>?_⟩,fun q=>?_,fun q=>absurd hp q⟩
    ·cases haa
     rcases hz.place with q | ⟨j,rfl,hj⟩
     ·omega
     ·have hjN : j < N:=by
       rw [List.length_take] at hj
       omega
      exact ⟨⟨c,j,c1,by omega,hjN,rfl,hz,c3 _ hjN,fun q=>absurd q (by show ¬ (0 : Int) = 3; decide)⟩,fun q=>absurd q (by show ¬ (0 : Int) = 4; decide)⟩
    ·have q' : k.ph = 1:=q
     omega
 | some a =>
  have e1 : k.step N (2 * N + w) (Y b).C z = k.grab N (a.go a.slot.toNat (N + a.slot.toNat) (Y b).C):=by unfold Ge.step; rw [if_neg hnp,hta]
  have ec : (Y (b + 1)).C = a.cells a.slot.toNat (2 * N + w) (Y b).C:=by rw [hC]; unfold Ge.cells; rw [if_neg hnp,hta]
  obtain ⟨_,a2,a3,a4,a5⟩:=hF.ta a hta
  have hM:=h4 a hta
  obtain ⟨c,j,m1,m2,m3,m4,m5,m6,m7⟩:=hM.at'
  have hj : a.slot.toNat = j:=by omega
  rw [hj] at e1 ec
  have hna : ¬ a.ph ≠ 0:=by omega
  have hlb:=hlen b (Nat.le_refl _)
  have go : ∀ a' : Ta,a'.ph = 0 → a.go j (N + j) (Y b).C = a' → (k.step N (2 * N + w) (Y b).C z = { k with ta:=some a' } → TaM Y N w i k.e f (b + 1) a') →
    ((k.step N (2 * N + w) (Y b).C z).ph = 0 → GetM Y N w i d (k.step N (2 * N + w) (Y b).C z) (b + 1)) ∧
    ((k.step N (2 * N + w) (Y b).C z).ph = 1 → ∃ f,d.fr < (Y f).moves ∧ Got Y N w i d.e f b (k.step N (2 * N + w) (Y b).C z).val) ∧
    ((k.step N (2 * N + w) (Y b).C z).ph ≠ 0 → (k.step N (2 * N + w) (Y b).C z).ph ≠ 1 → ∃ f c,d.fr < (Y f).moves ∧ f ≤ c ∧ c ≤ b ∧ IsEnd ((Y c).C.take N) d.e (-1)):=by
   intro a' p0 pg pm
   have e2 : k.step N (2 * N + w) (Y b).C z = { k with ta:=some a' }:=by
    rw [e1,pg]
    unfold Ge.grab
    rw [if_neg (by omega),if_neg (by omega)]
   have hm:=pm e2
   rw [e2]
   refine ⟨fun _=>⟨he,f,h1,by omega,fun q=>(by cases q),fun x hx=>?_⟩,fun q=>?_,fun q=>absurd hp q⟩
   ·cases hx
    exact hm
   ·have q' : k.ph = 1:=q
    omega
  rcases a5.st a2 with ⟨n1,l1⟩ | ⟨n1,l1⟩ | ⟨n1,l1⟩ | ⟨n1,l1⟩ | n1
  ·refine go { a with next:=1 } a2 (by unfold Ta.go; rw [if_neg hna,if_pos n1]) (fun _=>⟨⟨c,j,m1,by omega,m3,m4,m5,m6,fun q=>absurd q (by show ¬ (1 : Int) = 3; decide)⟩,fun q=>absurd q (by show ¬ (1 : Int) = 4; decide)⟩)
  ·by_cases hq : (Y b).C.getD j 0 = a.word
   ·exact go { a with next:=2 } a2 (by unfold Ta.go; rw [if_neg hna,if_neg (by omega),if_pos n1,if_pos hq]) (fun _=>⟨⟨c,j,m1,by omega,m3,m4,m5,m6,fun q=>absurd q (by show ¬ (2 : Int) = 3; decide)⟩,fun q=>absurd q (by show ¬ (2 : Int) = 4; decide)⟩)
   ·exact go { a with next:=4,lost:=true } a2 (by unfold Ta.go; rw [if_neg hna,if_neg (by omega),if_pos n1,if_neg hq]) (fun _=>⟨⟨c,j,m1,by omega,m3,m4,m5,m6,fun q=>absurd q (by show ¬ (4 : Int) = 3; decide)⟩,fun _ q=>by cases q⟩)
  ·exact go { a with value:=(Y b).C.getD (N + j) 0,next:=3 } a2 (by unfold Ta.go; rw [if_neg hna,if_neg (by omega),if_neg (by omega),if_pos n1]) (fun _=>⟨⟨c,j,m1,by omega,m3,m4,m5,m6,fun _ _=>⟨b,by omega,by omega,rfl⟩⟩,fun q=>absurd q (by show ¬ (3 : Int) = 4; decide)⟩)
  ·by_cases hq : (Y b).C.getD j 0 = a.word
   ·refine go { a with next:=4 } a2 (by unfold Ta.go; rw [if_neg hna,if_neg (by omega),if_neg (by omega),if_neg (by omega),if_pos n1,if_pos hq]) (fun hk=>⟨⟨c,j,m1,by omega,m3,m4,m5,m6,fun q=>absurd q (by show ¬ (4 : Int) = 3; decide)⟩,fun _ _=>?_⟩)
    obtain ⟨u,u1,u2,u3⟩:=m7 n1 l1
    refine ⟨c,u,b,j,m1,u1,by omega,by omega,m3,m5,by rw [hq,m6], ?_,u3,⟨k,hw⟩, ?_⟩
    ·rw [ec]
     unfold Ta.cells
     rw [if_neg hna,if_neg (by omega),if_neg (by omega),if_neg (by omega),if_pos n1,if_pos hq,zAM _ (by omega),m6]
    ·rw [ht,hw,hk]
     rw [if_pos (by exact hp)]
     intro hh
     have hh':=Wk.ge.inj (Prod.mk.inj (Option.some.inj (Option.some.inj hh))).1
     have h5 : k.ta = some { a with next:=4 }:=by rw [← hh']
     rw [hta] at h5
     have h6 : a = { a with next:=4 }:=Option.some.inj h5
     have h7 : a.next = 4:=by rw [h6]
     omega
   ·exact go { a with next:=4,lost:=true } a2 (by unfold Ta.go; rw [if_neg hna,if_neg (by omega),if_neg (by omega),if_neg (by omega),if_pos n1,if_neg hq]) (fun _=>⟨⟨c,j,m1,by omega,m3,m4,m5,m6,fun q=>absurd q (by show ¬ (4 : Int) = 3; decide)⟩,fun _ q=>by cases q⟩)
  ·cases hl : a.lost with
   | true =>
    have eg : a.go j (N + j) (Y b).C = { a with ph:=2 }:=by unfold Ta.go; rw [if_neg hna,if_neg (by omega),if_neg (by omega),if_neg (by omega),if_neg (by omega),if_pos hl]
    have e2 : k.step N (2 * N + w) (Y b).C z = { k with tries:=k.tries + 1,sn:=sn0 k.t k.s k.so k.d k.who (IntKind.u64.wrap k.start % N) N,ta:=none }:=by
     rw [e1,eg]
     unfold Ge.grab
     rw [if_neg (by show ¬ (2 : Int) = 1; decide),if_pos rfl]
    rw [e2]
    have n2:=hF.ok.lay.n1
    have n3:=hF.ok.lay.n2
    obtain ⟨_,_,_,s4,s5⟩:=zAy k.start N (by omega) (by omega)
    refine ⟨fun _=>⟨he,f,h1,by omega,fun _=>?_,fun x hx=>by cases hx⟩,fun q=>?_,fun q=>absurd hp q⟩
    ·show SnM Y N (sn0 k.t k.s k.so k.d k.who (IntKind.u64.wrap k.start % N) N) f (b + 1)
     rw [show IntKind.u64.wrap k.start % N = (((IntKind.u64.wrap k.start % N).toNat : Nat) : Int) by omega]
     exact SnM.start _ _ _ _ _ _ (by omega) (by omega)
    ·have q' : k.ph = 1:=q
     omega
   | false =>
    have eg : a.go j (N + j) (Y b).C = { a with next:=5,ph:=1 }:=by unfold Ta.go; rw [if_neg hna,if_neg (by omega),if_neg (by omega),if_neg (by omega),if_neg (by omega),if_neg (by rw [hl]; decide)]
    have e2 : k.step N (2 * N + w) (Y b).C z = { k with ta:=some { a with next:=5,ph:=1 },ph:=1 }:=by
     rw [e1,eg]
     unfold Ge.grab
     rw [if_pos rfl]
    rw [e2]
    refine ⟨fun q=>absurd q (by show ¬ (1 : Int) = 0; decide),fun _=>⟨f,h1, ?_⟩,fun _ q=>absurd rfl q⟩
    rw [← he]
    exact hM.got n1 hl
end
section
variable {B : YB} {N m b w : Nat} {Y : Nat → Yd}
theorem zAv {Y : Yd} {P : Pl} {w i j : Nat} {T : Wk} {z : Int} {d0 a : Dd} (h0 : Y.ds[i]? = some d0) (hj : (Y.step P w T i z).ds[j]? = some a) : (Y.ds[j]? = some a ∧ (j = i → (T.step P Y.C Y.now z).ph = 0)) ∨ (j = i ∧ (T.step P Y.C Y.now z).ph ≠ 0 ∧ a = d0.over Y.moves (T.step P Y.C Y.now z)):=by
 have hj' : (if (T.step P Y.C Y.now z).ph = 0 then Y.ds else Y.ds.modify i (fun d=>d.over Y.moves (T.step P Y.C Y.now z)))[j]? = some a:=hj
 split at hj'
 ·rename_i hp
  exact .inl ⟨hj',fun _=>hp⟩
 ·rename_i hp
  rcases ymod hj' with ⟨e1,d1,e2,e3⟩ | ⟨e1,e2⟩
  ·subst e1
   rw [h0] at e2
   cases e2
   exact .inr ⟨rfl,hp,e3⟩
  ·exact .inl ⟨e2,fun e=>absurd e.symm e1⟩
theorem GTr.start (h : YTr B N Y m) : GTr Y N 0:=by
 constructor
 ·intro w k i d hw hd
  rw [h.zero] at hd
  simp at hd
 ·intro i d hd
  rw [h.zero] at hd
  simp at hd
theorem GTr.next (h : YTr B N Y m) (hG : GTr Y N b) (hb : b < m) : GTr Y N (b + 1):=by
 have hA:=h.all b (by omega)
 have hhow:=h.how b hb
 have hT:=h.hT
 have hlen : ∀ c,c ≤ b → N ≤ (Y c).C.length:=fun c hc=>by
  have:=(h.all c (by omega)).len
  omega
 generalize hZ : Y (b + 1) = Z at hhow
 cases hhow with
 | rest =>
  constructor
  ·intro w k i d hw hd
   rw [hZ] at hw hd
   exact (hG.run w k i d hw hd).later
  ·intro i d hd
   rw [hZ] at hd
   exact fun p q=>(hG.done i d hd p q).later
 | pass n hn =>
  constructor
  ·intro w k i d hw hd
   rw [hZ] at hw hd
   exact (hG.run w k i d hw hd).later
  ·intro i d hd
   rw [hZ] at hd
   exact fun p q=>(hG.done i d hd p q).later
 | call w take kd e x s hw he hk =>
  constructor
  ·intro v k i d hv hd
   rw [hZ] at hv hd
   rcases yset hv with ⟨rfl,hq,_⟩ | ⟨_,hq⟩
   ·have hq1 : Wk.ge k = wkB B N w take e x s:=(Prod.mk.inj (Option.some.inj hq)).1
    have hq2 : i = (Y b).ds.length:=(Prod.mk.inj (Option.some.inj hq)).2
    have hk':=zGc hq1
    subst hk' hq2
    rcases ysnoc hd with ⟨_,rfl⟩ | ⟨e1,_⟩
    ·refine ⟨rfl,b + 1, ?_,Nat.le_refl _,fun _=>?_,fun a ha=>by cases ha⟩
     ·rw [hZ]
      show (((Y b).moves : Nat) : Int) < (((Y b).moves + 1 : Nat) : Int)
      omega
     ·have n2:=h.cf.lay.n1
      have n3:=h.cf.lay.n2
      have n4:=h.cf.lay.t1
      obtain ⟨_,_,_,s4,s5⟩:=zAy s N (by omega) (by omega)
      show SnM Y N (sn0 B.t B.s B.so B.d w (IntKind.u64.wrap s % N) N) (b + 1) (b + 1)
      rw [show IntKind.u64.wrap s % N = (((IntKind.u64.wrap s % N).toNat : Nat) : Int) by omega]
      exact SnM.start _ _ _ _ _ _ (by omega) (Nat.le_refl _)
    ·omega
   ·obtain ⟨_,_,_,_,d0,k5,_⟩:=hA.ok.task v _ i hq
    rcases ysnoc hd with ⟨e1,_⟩ | ⟨_,e2⟩
    ·have:=(List.getElem?_eq_some_iff.1 k5).1
     omega
    ·exact (hG.run v k i d hq e2).later
  ·intro i d hd p q
   rw [hZ] at hd
   rcases ysnoc hd with ⟨_,rfl⟩ | ⟨_,e2⟩
   ·exact absurd rfl q
   ·exact (hG.done i d e2 p q).later
 | step w T i z hw ha =>
  obtain ⟨k1,k2,k3,k4,d0,k5,k6,k7,k8,_⟩:=hA.ok.task w T i hw
  have hkd:=hA.cok.kind w T i d0 hw k5
  have hst : ∀ {j : Nat},j < N → ∀ {a c e : Nat},a ≤ c → c ≤ e → e ≤ b → (Y a).C.getD j 0 = (Y e).C.getD j 0 → (Y c).C.getD j 0 = (Y a).C.getD j 0:=by
   intro j hj a c e h1 h2 h3 h4
   exact h.stays hj h1 h2 (by omega) h4
  have hlt : w < (Y b).ts.length:=(List.getElem?_eq_some_iff.1 hw).1
  have own : ∀ k : Ge,T = .ge k → GetTo Y N w i d0 b (k.step N (2 * N + w) (Y b).C z):=fun k hk=>by
   subst hk
   exact GetM.step (k:=k) (w:=w) (i:=i) (z:=z) (hG.run w k i d0 hw k5) (hA.ok.getF hw) (show k.ask (Y b).C z from ha) hw hlen (by rw [hZ]; rfl) (by
    rw [hZ]
    show (if (k.step N (2 * N + w) (Y b).C z).ph = 0 then (Y b).ts.set w (some (Wk.ge (k.step N (2 * N + w) (Y b).C z),i)) else (Y b).ts.set w none)[w]? = _
    split
    ·rw [List.getElem?_set_self hlt]
    ·rw [List.getElem?_set_self hlt]) hst
  constructor
  ·intro v k i' d hv hd
   rw [hZ] at hv hd
   have hv' : (if (T.step (plOf B N w) (Y b).C (Y b).now z).ph = 0 then (Y b).ts.set w (some (T.step (plOf B N w) (Y b).C (Y b).now z,i)) else (Y b).ts.set w Option.none)[v]? = some (some (Wk.ge k,i')):=hv
   by_cases hvw : w = v
   ·subst hvw
    split at hv'
    ·rename_i hp
     rw [List.getElem?_set_self hlt] at hv'
     obtain ⟨e1,rfl⟩:=Prod.mk.inj (Option.some.inj (Option.some.inj hv'))
     cases T with
     | pu p=>cases e1
     | ge g =>
      obtain ⟨o1,_⟩:=own g rfl
      have e2 : g.step N (2 * N + w) (Y b).C z = k:=Wk.ge.inj e1
      rcases zAv k5 hd with ⟨hd',_⟩ | ⟨_,q,_⟩
      ·rw [k5] at hd'
       cases hd'
       rw [← e2]
       exact o1 hp
      ·exact absurd hp q
    ·rw [List.getElem?_set_self hlt] at hv'
     cases hv'
   ·have hq : (Y b).ts[v]? = some (some (Wk.ge k,i')):=by
     split at hv'
     ·rw [List.getElem?_set_ne hvw] at hv'
      exact hv'
     ·rw [List.getElem?_set_ne hvw] at hv'
      exact hv'
    rcases zAv k5 hd with ⟨hd',_⟩ | ⟨e1,_,_⟩
    ·exact (hG.run v k i' d hq hd').later
    ·obtain ⟨_,_,_,_,d2,q5,q6,_⟩:=hA.ok.task v _ i' hq
     rw [e1,k5] at q5
     cases q5
     rw [k6] at q6
     omega
  ·intro j d hd p q
   rw [hZ] at hd
   rcases zAv k5 hd with ⟨hd',_⟩ | ⟨rfl,hp,rfl⟩
   ·exact (hG.done j d hd' p q).later
   ·obtain ⟨s1,s2,s3,s4,s5,s6,s7⟩:=Dd.over_same d0 (Y b).moves (T.step (plOf B N w) (Y b).C (Y b).now z)
    cases T with
    | pu k =>
     rw [s2,hkd] at p
     exact absurd p (by show ¬ kdI false = 1; decide)
    | ge k =>
     obtain ⟨_,o2,o3⟩:=own k rfl
     have hp' : (k.step N (2 * N + w) (Y b).C z).ph ≠ 0:=hp
     by_cases h1 : (k.step N (2 * N + w) (Y b).C z).ph = 1
     ·have e4 : d0.over (Y b).moves ((Wk.ge k).step (plOf B N w) (Y b).C (Y b).now z) = { d0 with till:=(Y b).moves,ok:=true,v:=(k.step N (2 * N + w) (Y b).C z).val,lo:=0,hi:=0 }:=if_pos h1
      rw [e4]
      obtain ⟨f,f1,f2⟩:=o2 h1
      exact ⟨fun _=>⟨w,f,b,k6,f1,by omega,Int.le_refl _,f2⟩,fun hh=>by cases hh⟩
     ·have e4 : d0.over (Y b).moves ((Wk.ge k).step (plOf B N w) (Y b).C (Y b).now z) = { d0 with till:=(Y b).moves }:=if_neg h1
      rw [e4]
      obtain ⟨f,c,f1,f2,f3,f4⟩:=o3 hp' h1
      exact ⟨fun hh=>absurd ((show d0.ok = true from hh).symm.trans k8) (by decide),fun _=>⟨f,c,b,f1,f2,f3,by omega,Int.le_refl _,f4⟩⟩
theorem YTr.gets (h : YTr B N Y m) : ∀ b,b ≤ m → GTr Y N b
 | 0,_=>GTr.start h
 | b + 1,hb=>(YTr.gets h b (by omega)).next h (by omega)
end
end
section
open Go.RowKit
structure PutAt (Y : Nat → Yd) (B : YB) (N i : Nat) (d : Dd) (p j : Nat) : Prop where
 till : ((Y p).moves : Int) = d.till
 lt : j < N
 own0 : d.who * B.s ≤ j
 own1 : j < d.who * B.s + B.s
 free : (Y p).C.getD j 0 % 4 ≠ 1
 word : (Y (p + 1)).C.getD j 0 = 1 + 4 * d.e + 8 * ((Y p).C.getD j 0 / 8 % 8192 + 1) + 65536 * d.lo + 1099511627776 * d.hi
 gen : (Y p).C.getD j 0 / 8 % 8192 ≤ 8190
 e0 : 0 ≤ d.e
 e1 : d.e ≤ 1
 st : 0 ≤ d.lo ∧ d.lo ≤ d.hi ∧ d.hi < 16777215
 value : (Y (p + 1)).C.getD (N + j) 0 = d.x
 rest : ∀ q,q ≠ j → (Y (p + 1)).C.getD q 0 = (Y p).C.getD q 0
 run : ∃ (w : Nat) (k : Pu),d.who = w ∧ (Y p).ts[w]? = some (some (.pu k,i)) ∧ (Y (p + 1)).ts[w]? = some none
structure VTr (Y : Nat → Yd) (B : YB) (N b : Nat) : Prop where
 run : ∀ (w : Nat) (k : Pu) (i : Nat) (d : Dd),(Y b).ts[w]? = some (some (.pu k,i)) → (Y b).ds[i]? = some d → k.value = d.x ∧ k.e = d.e ∧ (k.next = 3 → (Y b).C.getD (N + k.cl.slot.toNat) 0 = d.x)
 done : ∀ (i : Nat) (d : Dd),(Y b).ds[i]? = some d → d.kd = 0 → d.ok = true → ∃ p j,p < b ∧ PutAt Y B N i d p j
 live : ∀ j,j < N → (Y b).C.getD j 0 % 4 = 1 → ∃ i d p,(Y b).ds[i]? = some d ∧ d.kd = 0 ∧ d.ok = true ∧ p < b ∧ PutAt Y B N i d p j ∧ (Y b).C.getD j 0 = (Y (p + 1)).C.getD j 0 ∧ (Y b).C.getD (N + j) 0 = d.x
section
theorem zIE {nb : Nat} {k : Tk} {C : List Int} {now : Int} {i : Nat} (h : i < nb) : (stp nb k C now).2.1.getD i 0 = C.getD i 0:=by
 have key : ∀ (q : Nat) (x : Int),(C.set (nb + q) x).getD i 0 = C.getD i 0:=fun q x=>zAH x (by omega)
 have key0 : ∀ (x : Int),(C.set nb x).getD i 0 = C.getD i 0:=key 0
 unfold stp
 repeat' split
 all_goals first | rfl | exact key _ _ | exact key0 _
theorem zEz {k : Pu} {N nb : Nat} {C : List Int} {now : Int} (hp : k.ph = 0) (hn : k.next = 0 ∨ k.next = 1 ∨ k.next = 2 ∨ k.next = 3) (hl : 2 * N ≤ C.length) (hs : k.cl.slot.toNat < N) {q : Nat} (hq : q < nb) :
  (k.cells N nb C now).getD q 0 = C.getD q 0 ∨ (k.next = 2 ∧ q = N + k.cl.slot.toNat ∧ (k.cells N nb C now).getD q 0 = k.value) ∨ (k.next = 3 ∧ q = k.cl.slot.toNat):=by
 have hnp : ¬ k.ph ≠ 0:=by omega
 unfold Pu.cells
 rw [if_neg hnp]
 rcases hn with h | h | h | h
 ·rw [if_pos h]
  exact .inl rfl
 ·rw [if_neg (by omega),if_pos h]
  exact .inl (zIE hq)
 ·rw [if_neg (by omega),if_neg (by omega),if_pos h]
  by_cases e : N + k.cl.slot.toNat = q
  ·subst e
   exact .inr (.inl ⟨h,rfl,zAM _ (by omega)⟩)
  ·exact .inl (zAH _ e)
 ·rw [if_neg (by omega),if_neg (by omega),if_neg (by omega)]
  by_cases e : k.cl.slot.toNat = q
  ·exact .inr (.inr ⟨h,e.symm⟩)
  ·exact .inl (zAH _ e)
theorem zC6 (k : Pu) (r : Int) : (k.after r).next = k.next ∨ (k.after r).next = k.next + 1:=by
 unfold Pu.after
 split
 ·exact .inr rfl
 ·split <;> exact .inl rfl
end
section
variable {B : YB} {N n m b w : Nat} {Y : Nat → Yd}
theorem zGL {Y : Yd} {k : Ge} {i : Nat} (hA : AOk B N Y) (ho : YOk (plOf B N) B.T n Y) (hl : (Y.C.length : Int) = 2 * N + 2 * B.t) (hw : Y.ts[w]? = some (some (.ge k,i))) {q : Nat} (hq : q < 2 * N) :
  (k.cells N (2 * N + w) Y.C).getD q 0 = Y.C.getD q 0 ∨ (q < N ∧ (k.cells N (2 * N + w) Y.C).getD q 0 = tkW (Y.C.getD q 0) ∧ (k.cells N (2 * N + w) Y.C).getD q 0 % 4 = 2):=by
 have hF:=ho.getF hw
 unfold Ge.cells
 split
 ·exact .inl rfl
 ·cases hta : k.ta with
  | none=>exact .inl rfl
  | some a =>
   obtain ⟨_,_,b3,b4,b5⟩:=hF.ta a hta
   show (a.cells a.slot.toNat (2 * N + w) Y.C).getD q 0 = _ ∨ (q < N ∧ (a.cells a.slot.toNat (2 * N + w) Y.C).getD q 0 = _ ∧ (a.cells a.slot.toNat (2 * N + w) Y.C).getD q 0 % 4 = 2)
   have hlen:=b5.len
   have ht1:=b5.lay.t1
   unfold Ta.cells
   split
   ·exact .inl rfl
   ·split
    ·exact .inl (zAH _ (by omega))
    ·split
     ·exact .inl rfl
     ·split
      ·exact .inl rfl
      ·split
       ·split
        ·rename_i hx
         by_cases e : a.slot.toNat = q
         ·subst e
          have x0:=b5.x0
          right
          rw [zAM _ (by omega),hx]
          exact ⟨by omega,rfl,(zAq x0).1⟩
         ·exact .inl (zAH _ e)
        ·exact .inl rfl
       ·exact .inl (zAH _ (by omega))
theorem VTr.start (h : YTr B N Y m) : VTr Y B N 0:=by
 have hz : ∀ j,(Y 0).C.getD j 0 = 0:=fun j=>by
  rw [h.zero]
  show (List.replicate (2 * N + 2 * B.T) (0 : Int)).getD j 0 = 0
  rw [List.getD_eq_getElem?_getD,List.getElem?_replicate]
  split <;> rfl
 refine ⟨fun w k i d hw hd=>?_,fun i d hd=>?_,fun j _ hj=>?_⟩
 ·rw [h.zero] at hd
  simp at hd
 ·rw [h.zero] at hd
  simp at hd
 ·rw [hz] at hj
  omega
theorem VTr.live_same (hV : VTr Y B N b) (hC : ∀ j,j < N → (Y (b + 1)).C.getD j 0 % 4 = 1 → (Y (b + 1)).C.getD j 0 = (Y b).C.getD j 0 ∧ (Y (b + 1)).C.getD (N + j) 0 = (Y b).C.getD (N + j) 0) (hd : ∀ (i : Nat) (d : Dd),(Y b).ds[i]? = some d → d.ok = true → (Y (b + 1)).ds[i]? = some d) :
  ∀ j,j < N → (Y (b + 1)).C.getD j 0 % 4 = 1 → ∃ i d p,(Y (b + 1)).ds[i]? = some d ∧ d.kd = 0 ∧ d.ok = true ∧ p < b + 1 ∧ PutAt Y B N i d p j ∧ (Y (b + 1)).C.getD j 0 = (Y (p + 1)).C.getD j 0 ∧ (Y (b + 1)).C.getD (N + j) 0 = d.x:=by
 intro j hj h1
 obtain ⟨c1,c2⟩:=hC j hj h1
 rw [c1] at h1
 obtain ⟨i,d,p,p1,p2,p3,p4,p5,p6,p7⟩:=hV.live j hj h1
 exact ⟨i,d,p,hd i d p1 p3,p2,p3,by omega,p5,c1.trans p6,c2.trans p7⟩
theorem VTr.next (h : YTr B N Y m) (hV : VTr Y B N b) (hb : b < m) : VTr Y B N (b + 1):=by
 have hA:=h.all b (by omega)
 have hhow:=h.how b hb
 have hT:=h.hT
 have hlen:=hA.len
 generalize hZ : Y (b + 1) = Z at hhow
 cases hhow with
 | rest =>
  refine ⟨fun w k i d hw hd=>?_,fun i d hd p q=>?_,hV.live_same (fun j _ _=>by rw [hZ]; exact ⟨rfl,rfl⟩) (fun i d hd _=>by rw [hZ]; exact hd)⟩
  ·rw [hZ] at hw hd ⊢
   exact hV.run w k i d hw hd
  ·rw [hZ] at hd
   obtain ⟨p',j,h1,h2⟩:=hV.done i d hd p q
   exact ⟨p',j,by omega,h2⟩
 | pass n hn =>
  refine ⟨fun w k i d hw hd=>?_,fun i d hd p q=>?_,hV.live_same (fun j _ _=>by rw [hZ]; exact ⟨rfl,rfl⟩) (fun i d hd _=>by rw [hZ]; exact hd)⟩
  ·rw [hZ] at hw hd ⊢
   exact hV.run w k i d hw hd
  ·rw [hZ] at hd
   obtain ⟨p',j,h1,h2⟩:=hV.done i d hd p q
   exact ⟨p',j,by omega,h2⟩
 | call w take kd e x s hw he hk =>
  have hZC : (Y (b + 1)).C = (Y b).C:=by rw [hZ]; rfl
  refine ⟨fun v k i d hv hd=>?_,fun i d hd p q=>?_,hV.live_same (fun j _ _=>by rw [hZC]; exact ⟨rfl,rfl⟩) (fun i d hd _=>by
   rw [hZ]
   show ((Y b).ds ++ [_])[i]? = some d
   rw [List.getElem?_append_left (List.getElem?_eq_some_iff.1 hd).1]
   exact hd)⟩
  ·rw [hZC]
   rw [hZ] at hv hd
   rcases yset hv with ⟨rfl,hq,_⟩ | ⟨_,hq⟩
   ·have hq1 : Wk.pu k = wkB B N w take e x s:=(Prod.mk.inj (Option.some.inj hq)).1
    have hq2 : i = (Y b).ds.length:=(Prod.mk.inj (Option.some.inj hq)).2
    have hk':=zC1 hq1
    subst hk' hq2
    rcases ysnoc hd with ⟨_,rfl⟩ | ⟨e1,_⟩
    ·exact ⟨rfl,rfl,fun q=>absurd q (by show ¬ (0 : Int) = 3; decide)⟩
    ·omega
   ·obtain ⟨_,_,_,_,d0,k5,_⟩:=hA.ok.task v _ i hq
    rcases ysnoc hd with ⟨e1,_⟩ | ⟨_,e2⟩
    ·have:=(List.getElem?_eq_some_iff.1 k5).1
     omega
    ·exact hV.run v k i d hq e2
  ·rw [hZ] at hd
   rcases ysnoc hd with ⟨_,rfl⟩ | ⟨_,e2⟩
   ·cases q
   ·obtain ⟨p',j,h1,h2⟩:=hV.done i d e2 p q
    exact ⟨p',j,by omega,h2⟩
 | step w T i z hw ha =>
  obtain ⟨k1,k2,k3,k4,d0,k5,k6,k7,k8,_⟩:=hA.ok.task w T i hw
  have hkd:=hA.cok.kind w T i d0 hw k5
  have hlt : w < (Y b).ts.length:=(List.getElem?_eq_some_iff.1 hw).1
  have hZC : (Y (b + 1)).C = T.cells (plOf B N w) (Y b).C (Y b).now:=by rw [hZ]; rfl
  have keep : ∀ (i' : Nat) (d : Dd),(Y b).ds[i']? = some d → d.ok = true → (Y (b + 1)).ds[i']? = some d:=fun i' d hd hok=>by
   rw [hZ]
   show (if (T.step (plOf B N w) (Y b).C (Y b).now z).ph = 0 then (Y b).ds else (Y b).ds.modify i (fun d=>d.over (Y b).moves (T.step (plOf B N w) (Y b).C (Y b).now z)))[i']? = some d
   split
   ·exact hd
   ·rw [zBW (fun e=>?_)]
    ·exact hd
    ·rw [← e,k5] at hd
     cases hd
     rw [k8] at hok
     cases hok
  have other : ∀ (v : Nat) (k : Pu) (i' : Nat),v ≠ w → (Y b).ts[v]? = some (some (.pu k,i')) → (Y (b + 1)).C.getD (N + k.cl.slot.toNat) 0 = (Y b).C.getD (N + k.cl.slot.toNat) 0:=fun v k i' hv hq=>by
   have hG:=hA.ok.putF h.cf hT hlen hq
   have g1:=hG.lo
   have g2:=hG.hi
   have g3:=hG.n1
   obtain ⟨n0,_⟩:=h.cf.own hT hG.wT
   rw [hZC]
   cases T with
   | ge g =>
    rcases zGL hA.aok hA.ok hlen hw (q:=N + k.cl.slot.toNat) (by omega) with hh | ⟨hh,_⟩
    ·exact hh
    ·omega
   | pu p =>
    have hF:=hA.ok.putF h.cf hT hlen hw
    have b1:=hF.lo
    have b2:=hF.hi
    have b3:=hF.n1
    obtain ⟨m0,_⟩:=h.cf.own hT hF.wT
    rcases zEz (nb:=2 * N + B.T) (C:=(Y b).C) (now:=(Y b).now) hF.ph (by rcases hF.ok.at' hF.ph with h | h | h | h <;> omega) (by omega) (by omega : p.cl.slot.toNat < N) (q:=N + k.cl.slot.toNat) (by omega) with hh | ⟨_,hh,_⟩ | ⟨_,hh⟩
    ·exact hh
    ·exfalso
     rcases (by omega : v < w ∨ w < v) with hvw | hvw
     ·have h5 : ((v : Int) + 1) * B.s ≤ (w : Int) * B.s:=Int.mul_le_mul_of_nonneg_right (by omega) (by have:=h.cf.lay.s1; omega)
      rw [Int.add_mul,Int.one_mul] at h5
      omega
     ·have h5 : ((w : Int) + 1) * B.s ≤ (v : Int) * B.s:=Int.mul_le_mul_of_nonneg_right (by omega) (by have:=h.cf.lay.s1; omega)
      rw [Int.add_mul,Int.one_mul] at h5
      omega
    ·omega
  have store : ∀ k : Pu,T = .pu k → k.next = 3 → ∃ d1 : Dd,d1 = d0.over (Y b).moves (T.step (plOf B N w) (Y b).C (Y b).now z) ∧ d1.kd = 0 ∧ d1.ok = true ∧ (Y (b + 1)).ds[i]? = some d1 ∧ (Y (b + 1)).C = (Y b).C.set k.cl.slot.toNat k.pack ∧ PutAt Y B N i d1 b k.cl.slot.toNat:=fun k hk hn=>by
   subst hk
   have hF:=hA.ok.putF h.cf hT hlen hw
   have hok:=hF.ok
   have b1:=hF.lo
   have b2:=hF.hi
   have b3:=hF.n1
   obtain ⟨m0,_⟩:=h.cf.own hT hF.wT
   have hnp : ¬ k.ph ≠ 0:=by have:=hF.ph; omega
   rcases hok.at' hF.ph with ⟨a1,_⟩ | ⟨a1,_⟩ | ⟨a1,_⟩ | ⟨a1,a2,a3⟩
   ·omega
   ·omega
   ·omega
   have e2 : k.cells N (2 * N + B.T) (Y b).C (Y b).now = (Y b).C.set k.cl.slot.toNat k.pack:=by unfold Pu.cells; rw [if_neg hnp,if_neg (by omega),if_neg (by omega),if_neg (by omega)]
   have e3 : k.step ((w : Int) * B.s) (2 * N + B.T) (2 * N) (Y b).C (Y b).now = { k with ph:=1 }:=by unfold Pu.step; rw [if_neg hnp,if_neg (by omega),if_neg (by omega),if_neg (by omega)]
   have e4 : d0.over (Y b).moves ((Wk.pu k).step (plOf B N w) (Y b).C (Y b).now z) = { d0 with till:=(Y b).moves,ok:=true,v:=0,lo:=k.tk.lo,hi:=k.tk.hi }:=by
    show d0.over (Y b).moves (.pu (k.step ((w : Int) * B.s) (2 * N + B.T) (2 * N) (Y b).C (Y b).now)) = _
    rw [e3]
    rfl
   have e5 : (Y (b + 1)).C = (Y b).C.set k.cl.slot.toNat k.pack:=by rw [hZC]; exact e2
   have hph : ¬ ((Wk.pu k).step (plOf B N w) (Y b).C (Y b).now z).ph = 0:=by
    show ¬ (k.step ((w : Int) * B.s) (2 * N + B.T) (2 * N) (Y b).C (Y b).now).ph = 0
    rw [e3]
    exact (by decide : ¬ (1 : Int) = 0)
   have hP:=(hA.aok.put w k i hw).word hF.ph (.inl a2)
   obtain ⟨r1,r2,r3⟩:=hV.run w k i d0 hw k5
   have hg:=hok.wg (.inl a2)
   refine ⟨_,rfl, ?_, ?_, ?_,e5, ?_⟩
   ·rw [e4]
    exact hkd
   ·rw [e4]
   ·rw [hZ]
    show (if ((Wk.pu k).step (plOf B N w) (Y b).C (Y b).now z).ph = 0 then (Y b).ds else (Y b).ds.modify i (fun d=>d.over (Y b).moves ((Wk.pu k).step (plOf B N w) (Y b).C (Y b).now z)))[i]? = _
    rw [if_neg hph,zBJ k5]
   ·rw [e4]
    refine ⟨rfl,by omega,by show d0.who * B.s ≤ _; rw [k6]; omega,by show _ < d0.who * B.s + B.s; rw [k6]; omega,hP.1, ?_,by omega,by show 0 ≤ d0.e; rw [← r2]; exact hok.e0,by show d0.e ≤ 1; rw [← r2]; exact hok.e1,hok.st a3, ?_,fun q hq=>?_,w,k,k6,hw, ?_⟩
    ·rw [e5,zAM _ (by omega),hP.2]
     show k.pack = 1 + 4 * d0.e + 8 * (k.cl.wg + 1) + 65536 * k.tk.lo + 1099511627776 * k.tk.hi
     rw [← r2]
     rfl
    ·rw [e5,zAH _ (by omega)]
     exact r3 a1
    ·rw [e5,zAH _ (fun e=>hq e.symm)]
    ·rw [hZ]
     show (if ((Wk.pu k).step (plOf B N w) (Y b).C (Y b).now z).ph = 0 then (Y b).ts.set w (some ((Wk.pu k).step (plOf B N w) (Y b).C (Y b).now z,i)) else (Y b).ts.set w none)[w]? = _
     rw [if_neg hph,List.getElem?_set_self hlt]
  refine ⟨fun v k i' d hv hd=>?_,fun j d hd p q=>?_, ?_⟩
  ·rw [hZ] at hv hd
   rcases zAf hv with ⟨rfl,hq,h0⟩ | ⟨hvw,hq⟩
   ·have hv' : (if (T.step (plOf B N v) (Y b).C (Y b).now z).ph = 0 then (Y b).ts.set v (some (T.step (plOf B N v) (Y b).C (Y b).now z,i)) else (Y b).ts.set v Option.none)[v]? = some (some (Wk.pu k,i')):=hv
    rw [if_pos h0,List.getElem?_set_self hlt] at hv'
    obtain ⟨_,rfl⟩:=Prod.mk.inj (Option.some.inj (Option.some.inj hv'))
    cases T with
    | ge g=>cases hq
    | pu p =>
     have hk : p.step ((v : Int) * B.s) (2 * N + B.T) (2 * N) (Y b).C (Y b).now = k:=(Wk.pu.inj hq).symm
     have hd' : d = d0:=by
      rcases zAv k5 hd with ⟨hd',_⟩ | ⟨_,q,_⟩
      ·rw [k5] at hd'
       cases hd'
       rfl
      ·exact absurd h0 q
     subst hd'
     obtain ⟨r1,r2,r3⟩:=hV.run v p i d hw k5
     have hF:=hA.ok.putF h.cf hT hlen hw
     have b1:=hF.lo
     have b2:=hF.hi
     have b3:=hF.n1
     obtain ⟨m0,_⟩:=h.cf.own hT hF.wT
     have hnp : ¬ p.ph ≠ 0:=by have:=hF.ph; omega
     have hsame:=Pu.step_same p ((v : Int) * B.s) (2 * N + B.T) (2 * N) (Y b).C (Y b).now
     rw [hk] at hsame
     refine ⟨by rw [hsame.value]; exact r1,by rw [hsame.e]; exact r2,fun hn=>?_⟩
     rcases hF.ok.at' hF.ph with ⟨a1,_⟩ | ⟨a1,_⟩ | ⟨a1,_⟩ | ⟨a1,_⟩
     ·exfalso
      unfold Pu.step at hk
      rw [if_neg hnp,if_pos a1] at hk
      rw [← hk] at hn
      rcases zC6 { p with cl:=p.cl.step ((v : Int) * B.s) (2 * N) (Y b).C } (p.cl.step ((v : Int) * B.s) (2 * N) (Y b).C).ph with e | e
      ·rw [e] at hn
       have hn' : p.next = 3:=hn
       omega
      ·rw [e] at hn
       have hn' : p.next + 1 = 3:=hn
       omega
     ·exfalso
      unfold Pu.step at hk
      rw [if_neg hnp,if_neg (by omega),if_pos a1] at hk
      rw [← hk] at hn
      rcases zC6 { p with tk:=(stp (2 * N + B.T) p.tk (Y b).C (Y b).now).1 } (stp (2 * N + B.T) p.tk (Y b).C (Y b).now).1.ph with e | e
      ·rw [e] at hn
       have hn' : p.next = 3:=hn
       omega
      ·rw [e] at hn
       have hn' : p.next + 1 = 3:=hn
       omega
     ·unfold Pu.step at hk
      rw [if_neg hnp,if_neg (by omega),if_neg (by omega),if_pos a1] at hk
      have e2 : (Wk.pu p).cells (plOf B N v) (Y b).C (Y b).now = (Y b).C.set (N + p.cl.slot.toNat) p.value:=by show p.cells N (2 * N + B.T) (Y b).C (Y b).now = _; unfold Pu.cells; rw [if_neg hnp,if_neg (by omega),if_neg (by omega),if_pos a1]
      rw [hZC,e2, ← hk]
      show ((Y b).C.set (N + p.cl.slot.toNat) p.value).getD (N + p.cl.slot.toNat) 0 = d.x
      rw [zAM _ (by omega)]
      exact r1
     ·exfalso
      unfold Pu.step at hk
      rw [if_neg hnp,if_neg (by omega),if_neg (by omega),if_neg (by omega)] at hk
      have h0' : (p.step ((v : Int) * B.s) (2 * N + B.T) (2 * N) (Y b).C (Y b).now).ph = 0:=h0
      unfold Pu.step at h0'
      rw [if_neg hnp,if_neg (by omega),if_neg (by omega),if_neg (by omega)] at h0'
      exact absurd h0' (by show ¬ (1 : Int) = 0; decide)
   ·have hd' : (Y b).ds[i']? = some d:=by
     rcases zAv k5 hd with ⟨hd',_⟩ | ⟨e1,_,_⟩
     ·exact hd'
     ·obtain ⟨_,_,_,_,d2,q5,q6,_⟩:=hA.ok.task v _ i' hq
      rw [e1,k5] at q5
      cases q5
      rw [k6] at q6
      omega
    rw [other v k i' hvw hq]
    exact hV.run v k i' d hq hd'
  ·rw [hZ] at hd
   rcases zAv k5 hd with ⟨hd',_⟩ | ⟨rfl,hp,rfl⟩
   ·obtain ⟨p',j',h1,h2⟩:=hV.done j d hd' p q
    exact ⟨p',j',by omega,h2⟩
   ·cases T with
    | ge g =>
     rw [(Dd.over_same d0 (Y b).moves _).2.1,hkd] at p
     exact absurd p (by show ¬ kdI true = 0; decide)
    | pu k =>
     have hF:=hA.ok.putF h.cf hT hlen hw
     have hnp : ¬ k.ph ≠ 0:=by have:=hF.ph; omega
     have hp1 : (k.step ((w : Int) * B.s) (2 * N + B.T) (2 * N) (Y b).C (Y b).now).ph = 1:=by
      by_cases hq : (k.step ((w : Int) * B.s) (2 * N + B.T) (2 * N) (Y b).C (Y b).now).ph = 1
      ·exact hq
      ·have e4 : d0.over (Y b).moves ((Wk.pu k).step (plOf B N w) (Y b).C (Y b).now z) = { d0 with till:=(Y b).moves }:=if_neg hq
       rw [e4] at q
       exact absurd ((show d0.ok = true from q).symm.trans k8) (by decide)
     have hn3 : k.next = 3:=by
      rcases hF.ok.at' hF.ph with ⟨a1,_⟩ | ⟨a1,_⟩ | ⟨a1,_⟩ | ⟨a1,_⟩
      ·exfalso
       unfold Pu.step at hp1
       rw [if_neg hnp,if_pos a1] at hp1
       exact zBM _ _ (by exact Classical.not_not.1 hnp) hp1
      ·exfalso
       unfold Pu.step at hp1
       rw [if_neg hnp,if_neg (by omega),if_pos a1] at hp1
       exact zBM _ _ (by exact Classical.not_not.1 hnp) hp1
      ·exfalso
       unfold Pu.step at hp1
       rw [if_neg hnp,if_neg (by omega),if_neg (by omega),if_pos a1] at hp1
       have : k.ph = 1:=hp1
       omega
      ·exact a1
     obtain ⟨d1,rfl,_,_,_,_,h6⟩:=store k rfl hn3
     exact ⟨b,_,by omega,h6⟩
  ·by_cases hs : ∃ k : Pu,T = .pu k ∧ k.next = 3
   ·obtain ⟨k,hk,hn⟩:=hs
    obtain ⟨d1,h1,h2,h3,h4,h5,h6⟩:=store k hk hn
    intro j hj hlive
    by_cases e : j = k.cl.slot.toNat
    ·subst e
     exact ⟨i,d1,b,h4,h2,h3,by omega,h6,rfl,h6.value⟩
    ·have c1:=h6.rest j e
     have c2 : (Y (b + 1)).C.getD (N + j) 0 = (Y b).C.getD (N + j) 0:=h6.rest (N + j) (by have:=h6.lt; omega)
     rw [c1] at hlive
     obtain ⟨i2,d,p,p1,p2,p3,p4,p5,p6,p7⟩:=hV.live j hj hlive
     exact ⟨i2,d,p,keep i2 d p1 p3,p2,p3,by omega,p5,c1.trans p6,c2.trans p7⟩
   ·refine hV.live_same (fun j hj hlive=>?_) keep
    rw [hZC] at hlive ⊢
    cases T with
    | ge g =>
     rcases zGL hA.aok hA.ok hlen hw (q:=j) (by omega) with hh | ⟨_,_,hh⟩
     ·rcases zGL hA.aok hA.ok hlen hw (q:=N + j) (by omega) with hh2 | ⟨hh2,_⟩
      ·exact ⟨hh,hh2⟩
      ·omega
     ·have hlive' : (g.cells N (2 * N + w) (Y b).C).getD j 0 % 4 = 1:=hlive
      omega
    | pu p =>
     have hF:=hA.ok.putF h.cf hT hlen hw
     have b1:=hF.lo
     have b2:=hF.hi
     have b3:=hF.n1
     obtain ⟨m0,_⟩:=h.cf.own hT hF.wT
     have hn3 : ¬ p.next = 3:=fun e=>hs ⟨p,rfl,e⟩
     have hn:=hF.ok.at' hF.ph
     rcases zEz (nb:=2 * N + B.T) (C:=(Y b).C) (now:=(Y b).now) hF.ph (by rcases hn with h | h | h | h <;> omega) (by omega) (by omega : p.cl.slot.toNat < N) (q:=j) (by omega) with hh | ⟨_,hh,_⟩ | ⟨hh,_⟩
     ·rcases zEz (nb:=2 * N + B.T) (C:=(Y b).C) (now:=(Y b).now) hF.ph (by rcases hn with h | h | h | h <;> omega) (by omega) (by omega : p.cl.slot.toNat < N) (q:=N + j) (by omega) with hh2 | ⟨h2,hh2,_⟩ | ⟨hh2,_⟩
      ·exact ⟨hh,hh2⟩
      ·exfalso
       have hlive' : (p.cells N (2 * N + B.T) (Y b).C (Y b).now).getD j 0 % 4 = 1:=hlive
       rw [hh] at hlive'
       have hj2 : p.cl.slot.toNat = j:=by omega
       rcases hn with ⟨a1,_⟩ | ⟨a1,_⟩ | ⟨a1,a2,_⟩ | ⟨a1,_⟩
       ·omega
       ·omega
       ·have hP:=(hA.aok.put w p i hw).word hF.ph (.inl a2)
        rw [hj2] at hP
        exact hP.1 hlive'
       ·omega
      ·exact absurd hh2 hn3
     ·omega
     ·exact absurd hh hn3
theorem YTr.puts (h : YTr B N Y m) : ∀ b,b ≤ m → VTr Y B N b
 | 0,_=>VTr.start h
 | b + 1,hb=>(YTr.puts h b (by omega)).next h (by omega)
end
end
section
open Go.RowKit
section
variable {B : YB} {N n m b w : Nat} {Y : Nat → Yd}
theorem zFN {Y Y' : Yd} (h : YHow B N Y Y') {v w : Nat} (hv : Y'.ts[v]? ≠ Y.ts[v]?) (hw : Y'.ts[w]? ≠ Y.ts[w]?) : v = w:=by
 cases h with
 | rest=>exact absurd rfl hv
 | pass n hn=>exact absurd rfl hv
 | call w0 take kd e x s h1 h2 h3 =>
  have key : ∀ u,(Y.call w0 kd e x s (wkB B N w0 take e x s)).ts[u]? ≠ Y.ts[u]? → w0 = u:=fun u hu=>Classical.byContradiction fun hne=>hu (List.getElem?_set_ne hne)
  exact (key v hv).symm.trans (key w hw)
 | step w0 T i z h1 h2 =>
  have key : ∀ u,(Y.step (plOf B N w0) w0 T i z).ts[u]? ≠ Y.ts[u]? → w0 = u:=fun u hu=>Classical.byContradiction fun hne=>hu (by
   show (if (T.step (plOf B N w0) Y.C Y.now z).ph = 0 then Y.ts.set w0 (some (T.step (plOf B N w0) Y.C Y.now z,i)) else Y.ts.set w0 none)[u]? = _
   split <;> exact List.getElem?_set_ne hne)
  exact (key v hv).symm.trans (key w hw)
theorem YHow.over {Y Y' : Yd} (ho : YOk (plOf B N) B.T n Y) (h : YHow B N Y Y') {i : Nat} {d : Dd} (hd : Y.ds[i]? = some d) (hok : d.ok = true ∨ d.till ≠ -1) : Y'.ds[i]? = some d:=by
 cases h with
 | rest=>exact hd
 | pass n hn=>exact hd
 | call w0 take kd e x s h1 h2 h3 =>
  show (Y.ds ++ [_])[i]? = some d
  rw [List.getElem?_append_left (List.getElem?_eq_some_iff.1 hd).1]
  exact hd
 | step w0 T i0 z h1 h2 =>
  obtain ⟨_,_,_,_,d0,k5,_,k7,k8,_⟩:=ho.task w0 T i0 h1
  show (if (T.step (plOf B N w0) Y.C Y.now z).ph = 0 then Y.ds else Y.ds.modify i0 (fun d=>d.over Y.moves (T.step (plOf B N w0) Y.C Y.now z)))[i]? = some d
  split
  ·exact hd
  ·rw [zBW (fun e=>?_)]
   ·exact hd
   ·rw [← e,k5] at hd
    cases hd
    rcases hok with hok | hok
    ·rw [k8] at hok
     cases hok
    ·exact hok k7
theorem YTr.over (h : YTr B N Y m) {i : Nat} {d : Dd} {a : Nat} : ∀ {b : Nat},a ≤ b → b ≤ m → (Y a).ds[i]? = some d → (d.ok = true ∨ d.till ≠ -1) → (Y b).ds[i]? = some d:=by
 intro b hab hb hd hok
 induction b with
 | zero =>
  obtain rfl : a = 0:=by omega
  exact hd
 | succ b ih =>
  by_cases hq : a = b + 1
  ·rw [← hq]
   exact hd
  ·exact (h.how b (by omega)).over (h.all b (by omega)).ok (ih (by omega) (by omega)) hok
theorem YTr.moves (h : YTr B N Y m) {a : Nat} : ∀ {b : Nat},a ≤ b → b ≤ m → (Y a).moves ≤ (Y b).moves:=by
 intro b hab hb
 induction b with
 | zero =>
  obtain rfl : a = 0:=by omega
  exact Nat.le_refl _
 | succ b ih =>
  by_cases hq : a = b + 1
  ·rw [← hq]
   exact Nat.le_refl _
  ·refine Nat.le_trans (ih (by omega) (by omega)) ?_
   have hw:=h.how b (by omega)
   generalize Y (b + 1) = Z at hw
   cases hw with
   | rest=>exact Nat.le_refl _
   | pass n hn=>exact Nat.le_refl _
   | call w0 take kd e x s h1 h2 h3=>exact Nat.le_succ _
   | step w0 T i0 z h1 h2=>exact Nat.le_succ _
theorem PutAt.live {i p j : Nat} {d : Dd} (h : PutAt Y B N i d p j) : (Y (p + 1)).C.getD j 0 % 4 = 1:=by
 have h1:=h.word
 omega
theorem zGy (h : YTr B N Y m) {i i' p p' j : Nat} {d d' : Dd} (h1 : PutAt Y B N i d p j) (h2 : PutAt Y B N i' d' p' j) (hp : p < m) (hp' : p' < m) (he : (Y (p + 1)).C.getD j 0 = (Y (p' + 1)).C.getD j 0) : p = p' ∧ i = i':=by
 have e : p = p':=by
  rcases Nat.lt_trichotomy p p' with hlt | heq | hlt
  ·have:=h.stays h1.lt (a:=p + 1) (b:=p') (c:=p' + 1) (by omega) (by omega) (by omega) he
   have h3:=h1.live
   have h4:=h2.free
   omega
  ·exact heq
  ·have:=h.stays h1.lt (a:=p' + 1) (b:=p) (c:=p + 1) (by omega) (by omega) (by omega) he.symm
   have h3:=h2.live
   have h4:=h1.free
   omega
 refine ⟨e, ?_⟩
 subst e
 obtain ⟨w,k,r1,r2,_⟩:=h1.run
 obtain ⟨w',k',q1,q2,_⟩:=h2.run
 have s1:=h.cf.lay.s1
 have a1:=h1.own0
 have a2:=h1.own1
 have a3:=h2.own0
 have a4:=h2.own1
 rw [r1] at a1 a2
 rw [q1] at a3 a4
 have e1:=zEp s1 a1 a2
 have e2:=zEp s1 a3 a4
 obtain rfl : w = w':=by omega
 rw [r2] at q2
 exact (Prod.mk.inj (Option.some.inj (Option.some.inj q2))).2
theorem zCm {C : List Int} {N j : Nat} (hj : j < N) : (C.take N).getD j 0 = C.getD j 0:=by
 rw [List.getD_eq_getElem?_getD,List.getD_eq_getElem?_getD,List.getElem?_take,if_pos hj]
theorem IsEnd.is {C : List Int} {N j : Nat} {e : Int} (h : IsEnd (C.take N) e j) (hj : j < N) : C.getD j 0 % 4 = 1:=by
 rcases h with ⟨h,_⟩ | ⟨i,h1,_,h3,_⟩
 ·omega
 ·obtain rfl : i = j:=by omega
  rw [← zCm hj]
  exact h3
structure Had (Y : Nat → Yd) (B : YB) (N w g : Nat) (e : Int) (f b : Nat) (v : Int) (c s j i p : Nat) (d : Dd) : Prop where
 fc : f ≤ c
 cs : c ≤ s
 sb : s < b
 lt : j < N
 isEnd : IsEnd ((Y c).C.take N) e j
 was : (Y s).C.getD j 0 = (Y c).C.getD j 0
 new : (Y (s + 1)).C.getD j 0 = tkW ((Y c).C.getD j 0)
 run : ∃ k,(Y s).ts[w]? = some (some (.ge k,g))
 turn : (Y (s + 1)).ts[w]? ≠ (Y s).ts[w]?
 deed : (Y c).ds[i]? = some d
 kd : d.kd = 0
 ok : d.ok = true
 pc : p < c
 put : PutAt Y B N i d p j
 word : (Y c).C.getD j 0 = (Y (p + 1)).C.getD j 0
 val : v = d.x
theorem zIC (h : YTr B N Y m) {g f : Nat} {e v : Int} (hb : b ≤ m) (hg : Got Y N w g e f b v) : ∃ c s j i p d,Had Y B N w g e f b v c s j i p d:=by
 obtain ⟨c,u,s,j,h1,h2,h3,h4,h5,h6,h7,h8,h9,h10,h11⟩:=hg
 have hl:=h6.is h5
 obtain ⟨i,d,p,p1,p2,p3,p4,p5,p6,p7⟩:=(h.puts c (by omega)).live j h5 hl
 have hu:=h.stays h5 h2 h3 (by omega) h7.symm
 obtain ⟨i2,d2,q,q1,q2,q3,q4,q5,q6,q7⟩:=(h.puts u (by omega)).live j h5 (by rw [hu]; exact hl)
 obtain ⟨rfl,_⟩:=zGy h p5 q5 (by omega) (by omega) (by rw [← p6, ← q6,hu])
 refine ⟨c,s,j,i,p,d,h1,by omega,h4,h5,h6,h7,h8,h10,h11,p1,p2,p3,p4,p5,p6, ?_⟩
 rw [h9,q7, ← q5.value,p5.value]
end
end
end Go.Proofs.YtebgjfhaolgcjaaGreat
