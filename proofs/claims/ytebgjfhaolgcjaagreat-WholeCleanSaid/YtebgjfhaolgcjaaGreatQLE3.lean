/- Contracts and plain lemmas that these laws need. No condition. -/
import Derived.IntWalk
import Derived.Test.YtebgjfhaolgcjaaGreatQLE1
import Derived.Test.YtebgjfhaolgcjaaGreatQLE2
namespace Go.Proofs.YtebgjfhaolgcjaaGreat
set_option linter.unusedVariables false
set_option maxHeartbeats 8000000
set_option maxRecDepth 100000
section
open Go.RowKit
theorem Hold.cdSet {W w : World} {l : List Thing} {b : Nat} {xs : List Value} (h : Hold W w l) (i : Nat) (hi : l[i]? = some (tObj W.heap.size b xs)) (j : Nat) (u : Value) : Hold W (w.setCell ⟨b,j,none⟩ u) (l.set i (tObj W.heap.size b (xs.set j u))):=by
 have ho : IsObj w b xs ∧ W.heap.size ≤ b:=h.has i _ hi
 exact h.turn i hi (Keep.setCell (T:=fun q=>q = b) (Keep.refl _ _) ⟨b,j,none⟩ rfl u) (zAQ _ _ _) ⟨ho.1.set j u,ho.2⟩ (fun q hq=>.inl hq)
theorem Hold.cd5 {W w : World} {l : List Thing} {b : Nat} {x0 x1 x2 x3 x4 : Value} (h : Hold W w l) (hi : l[0]? = some (tObj W.heap.size b [x0,x1,x2,x3,x4])) (v0 v1 v2 v3 v4 : Value) :
  Hold W (((((w.setCell ⟨b,0,none⟩ v0).setCell ⟨b,1,none⟩ v1).setCell ⟨b,2,none⟩ v2).setCell ⟨b,3,none⟩ v3).setCell ⟨b,4,none⟩ v4) (l.set 0 (tObj W.heap.size b [v0,v1,v2,v3,v4])):=by
 have hl : 0 < l.length:=(List.getElem?_eq_some_iff.1 hi).1
 have h1:=h.cdSet 0 hi 0 v0
 have h2:=h1.cdSet 0 (List.getElem?_set_self hl) 1 v1
 have h3:=h2.cdSet 0 (List.getElem?_set_self (by rw [List.length_set]; exact hl)) 2 v2
 have h4:=h3.cdSet 0 (List.getElem?_set_self (by rw [List.length_set,List.length_set]; exact hl)) 3 v3
 have h5:=h4.cdSet 0 (List.getElem?_set_self (by rw [List.length_set,List.length_set,List.length_set]; exact hl)) 4 v4
 simp only [List.set_set] at h5
 exact h5
theorem zBB (w : World) (c : Nat) (m : CM) (hb : c = w.heap.size) : Src (w.alloc (m.obj 39)) 7 (some ⟨c,0,none⟩) 1 m.list:=by
 subst hb
 exact zBn w m.list _ 7 1 rfl m.one
abbrev scV (t s so d : Int) (v : Value) : Value:=.agg #[.int .i64 t,.int .i64 s,.int .i64 so,.int .i64 d,v]
inductive DecPost (w' : World) (base : Nat) (l : List Int) : Value → Int → Int → Prop
 | short (h : l.length < 4) : DecPost w' base l (scV 0 0 0 0 (.slice none 0 0)) l.length 3
 | conf (t s so d : Int) (r : List Int) (h : l = t :: s :: so :: d :: r) (hr : rightC t s so d = false) : DecPost w' base l (scV 0 0 0 0 (.slice none 0 0)) 0 1
 | bad (t s so d : Int) (r : List Int) (n e : Int) (h : l = t :: s :: so :: d :: r) (hr : rightC t s so d = true) (hd : DecIs r [] n e) (he : e ≠ 0) : DecPost w' base l (scV 0 0 0 0 (.slice none 0 0)) (n + 4) e
 | ok (t s so d : Int) (r : List Int) (ms : List CM) (A : Option Addr) (cp : Nat) (h : l = t :: s :: so :: d :: r) (hr : rightC t s so d = true) (hd : DecIs r ms r.length 0) (ho : w'.ownsRow base 39 7 (.slice A ms.length cp) ms.length (flatM ms)) : DecPost w' base l (scV t s so d (.slice A ms.length cp)) l.length 0
structure DcH (W w : World) (ob sb rb : Nat) (A : Option Addr) (l : List Int) (cap at' : Nat) (t s so d : Int) (A1 : Option Addr) (cp1 : Nat) (ms : List CM) : Prop where
 h : Hold W w [tObj W.heap.size ob [i64 0,i64 0,i64 0,i64 0,.slice none 0 0],tObj W.heap.size sb [i64 t,i64 s,i64 so,i64 d,.slice A1 ms.length cp1],tRow W.heap.size 39 7 (.slice A1 ms.length cp1) ms.length (flatM ms),tObj W.heap.size rb (rdL A l cap at' false)]
 le : at' ≤ l.length
 is : l.drop 4 = encs ms ++ l.drop at'
 at4 : at' = 4 + (encs ms).length
 good : ∀ m ∈ ms,m.Good
 few : ms.length ≤ 65536
theorem zFG (A : Option Addr) (l : List Int) (cap : Nat) (w : World) (h : IsAt w A (l.map u8)) (hb : Byt l) (hc : l.length ≤ cap) (hf : l.length ≤ 1000000) :
  Calls Tryz.prog 48 #[.slice A l.length cap] w fun r w' => ∃ v n e,r = .returned (.tuple #[v,i64 n,i64 e]) ∧ Below w.heap.size w w' ∧ DecPost w' w.heap.size l v n e:=by
 have H:=zI2 h
 have HBY:=zI2 hb
 have hbn:=zAB (Below.refl w.heap.size w) (.cells #[.int .i64 0,.int .i64 0,.int .i64 0,.int .i64 0,.slice none 0 0] 29)
 have HB:=zI2 hbn
 have HO:=zI2 (IsObj.made w [.int .i64 0,.int .i64 0,.int .i64 0,.int .i64 0,.slice none 0 0] 29)
 clear h hb hbn
 rcases Nat.lt_or_ge l.length 4 with h4 | h4
 ·have h4' : (l.length : Int) < 4:=by omega
  have H4:=zI2 h4
  go_enter Tryz.func48,Tryz.ntmps48
  go_wp2_with fail
  exact bodyPost_ret (v:=.tuple #[scV 0 0 0 0 (.slice none 0 0),i64 l.length,i64 3]) (by simp [results,Tryz.results48,go_sem]) rfl ⟨_,_,_,rfl,HB.out,.short H4.out⟩
 have h4' : ¬ (l.length : Int) < 4:=by omega
 obtain ⟨b,off,rfl,hbl,hat⟩:=H.out (by rw [List.length_map]; omega)
 obtain ⟨t,s,so,d,r,hl⟩ : ∃ t s so d r,l = t :: s :: so :: d :: r:=by
  match l,h4 with
  | t :: s :: so :: d :: r,_=>exact ⟨t,s,so,d,r,rfl⟩
  | [],h=>exact absurd h (by decide)
  | [_],h=>exact absurd h (by show ¬ 4 ≤ 1; decide)
  | [_,_],h=>exact absurd h (by show ¬ 4 ≤ 2; decide)
  | [_,_,_],h=>exact absurd h (by show ¬ 4 ≤ 3; decide)
 have b0:=HBY.out t (by rw [hl]; simp)
 have b1:=HBY.out s (by rw [hl]; simp)
 have b2:=HBY.out so (by rw [hl]; simp)
 have b3:=HBY.out d (by rw [hl]; simp)
 have x0:=hat 0 (u8 t) (by rw [hl]; rfl)
 have x1:=hat 1 (u8 s) (by rw [hl]; rfl)
 have x2:=hat 2 (u8 so) (by rw [hl]; rfl)
 have x3:=hat 3 (u8 d) (by rw [hl]; rfl)
 have HL:=zI2 hl
 have HLT:=zI2 hbl
 have hX : ∀ wx,Below w.heap.size w wx → wx.cell? ⟨b,off,none⟩ = some (u8 t) ∧ wx.cell? ⟨b,off + 1,none⟩ = some (u8 s) ∧ wx.cell? ⟨b,off + 2,none⟩ = some (u8 so) ∧ wx.cell? ⟨b,off + 3,none⟩ = some (u8 d):=fun wx hb =>
  ⟨(hb.cell (p:=⟨b,off,none⟩) hbl).trans x0,(hb.cell (p:=⟨b,off + 1,none⟩) hbl).trans x1,(hb.cell (p:=⟨b,off + 2,none⟩) hbl).trans x2,(hb.cell (p:=⟨b,off + 3,none⟩) hbl).trans x3⟩
 have HX:=zI2 hX
 have w0 : IntKind.i64.wrap t = t:=IntWalk.i64_in _ (by omega)
 have w1' : IntKind.i64.wrap s = s:=IntWalk.i64_in _ (by omega)
 have w2' : IntKind.i64.wrap so = so:=IntWalk.i64_in _ (by omega)
 have w3' : IntKind.i64.wrap d = d:=IntWalk.i64_in _ (by omega)
 clear hl hbl hat x0 x1 x2 x3 b0 b1 b2 b3 hX
 have HFW:=zI2 (show 4 ≤ l.length ∧ l.length ≤ cap ∧ l.length ≤ 1000000 from ⟨h4,hc,hf⟩)
 clear hc hf h4 h4'
 obtain ⟨n,HN⟩ : ∃ n,Hid (l.length = n):=⟨_,zI2 rfl⟩
 have hn4 : ¬ (n : Int) < 4:=by have:=HN.out; have:=HFW.out; omega
 have hn0 : (0 : Int) < (n : Int):=by omega
 have hn1 : (1 : Int) < (n : Int):=by omega
 have hn2 : (2 : Int) < (n : Int):=by omega
 have hn3 : (3 : Int) < (n : Int):=by omega
 rw [HN.out]
 go_enter Tryz.func48,Tryz.ntmps48
 go_wp2_with fail
 generalize (w.alloc (.cells #[.int .i64 0,.int .i64 0,.int .i64 0,.int .i64 0,.slice none 0 0] 29)) = w1 at HB HO ⊢
 have hm0 : 0 < n:=by have:=HN.out; have:=HFW.out; omega
 have hm1 : 1 < n:=by have:=HN.out; have:=HFW.out; omega
 have hm2 : 2 < n:=by have:=HN.out; have:=HFW.out; omega
 have hm3 : 3 < n:=by have:=HN.out; have:=HFW.out; omega
 refine zAF ((fun wx=>wx.cell? ⟨b,off,none⟩ = some (u8 t) ∧ wx.cell? ⟨b,off + 1,none⟩ = some (u8 s) ∧ wx.cell? ⟨b,off + 2,none⟩ = some (u8 so) ∧ wx.cell? ⟨b,off + 3,none⟩ = some (u8 d))) ((0,true) :: (1,true) :: (2,true) :: (3,true) :: (4,true) :: (5,true) :: (6,true) :: (7,true) :: (8,true) :: (9,true) :: (10,true) :: (11,true) :: (12,true) :: (13,true) :: (14,true) :: (15,true) :: (16,true) :: (17,true) :: (18,false) :: (19,false) :: []) (by kernel_rfl) (by kernel_rfl) (by kernel_rfl) (by decide) (fun _ _ _ _ _ h=>h) (HX.out _ (HB.out.drew)) ?_
 repeat ((first | (refine zAC (v := ?_) rfl ?_ ?_ ?_; rotate_left 1; rfl; focus (rintro wS ⟨c0,c1,c2,c3⟩; go_simp <;> with_reducible rfl)) | (refine zAD rfl ?_ ?_; rfl)); try simp only [Act.put,qset])
 have HBd:=zI2 HB.out.drew
 have HOd:=zI2 HO.out.drew
 generalize w1.drew = w2 at HBd HOd ⊢
 refine zAG rfl (fun K hK=>?_)
 go_simp
 refine hK.out _ _ (HX.out _ (zAB HBd.out _)) (fun _=>?_)
 (try simp only [Act.put,qset])
 clear hK K
 refine zAG rfl (fun K hK=>?_)
 go_simp
 refine hK.out _ _ (HX.out _ (zAB HBd.out _)) (fun _=>?_)
 (try simp only [Act.put,qset])
 clear hK K
 refine zAI ?_
 clear hm0 hm1 hm2 hm3 hn0 hn1 hn2 hn3 hn4
 have HH1:=(Hold.nil (Below.refl w.heap.size w)).more (A:=tObj w.heap.size w.heap.size [i64 0,i64 0,i64 0,i64 0,.slice none 0 0]) HBd.out (zAQ _ _ _) ⟨HOd.out,Nat.le_refl _⟩ (fun q hq=>by cases hq; exact Nat.le_refl _)
 have HH2:=HH1.more (A:=tObj w.heap.size w2.heap.size [i64 t,i64 s,i64 so,i64 d,.slice none 0 0]) (zAB (Below.refl _ _) (.cells #[.int .i64 t,.int .i64 s,.int .i64 so,.int .i64 d,.slice none 0 0] 29)) (zAQ _ _ _) ⟨IsObj.made w2 [i64 t,i64 s,i64 so,i64 d,.slice none 0 0] 29,HBd.out.size⟩ (fun q hq=>by cases hq; exact Nat.le_refl _)
 have HH3:=zI2 (HH2.more (A:=tRow w.heap.size 39 7 (.slice none 0 0) 0 []) (Below.refl _ _) (zBD _ _ _ _ _ _) (World.ownsRow_nil _ _ _ _) (fun q hq=>by cases hq))
 clear HH1 HH2 HBd HOd HB HO
 generalize hsb : w2.heap.size = sb at HH3 ⊢
 clear hsb
 generalize (w2.alloc (.cells #[.int .i64 t,.int .i64 s,.int .i64 so,.int .i64 d,.slice none 0 0] 29)) = w3 at HH3 ⊢
 have hso:=(HH3.out.has 1 _ rfl : IsObj w3 sb [i64 t,i64 s,i64 so,i64 d,.slice none 0 0] ∧ _).1
 have q0:=hso.at' 0 _ rfl
 have q1:=hso.at' 1 _ rfl
 have q2:=hso.at' 2 _ rfl
 have q3:=hso.at' 3 _ rfl
 clear hso w0 w1' w2' w3'
 rcases Bool.eq_false_or_eq_true (rightC t s so d) with hr | hr
 case inr =>
  have HR:=zI2 hr
  clear hr
  go_wp2_with fail
  refine (zBK t s so d false HR.out _).mono ?_
  rintro r' w4 ⟨rfl,hb⟩
  have HH4:=zI2 (HH3.out.later hb)
  clear HH3 hb q0 q1 q2 q3
  have hob:=(HH4.out.has 0 _ rfl : IsObj w4 w.heap.size [i64 0,i64 0,i64 0,i64 0,.slice none 0 0] ∧ _).1
  have o0:=hob.at' 0 _ rfl
  have o1:=hob.at' 1 _ rfl
  have o2:=hob.at' 2 _ rfl
  have o3:=hob.at' 3 _ rfl
  have o4:=hob.at' 4 _ rfl
  have g0:=hob.fz 0
  have g1:=hob.fz 1
  have g2:=hob.fz 2
  have g3:=hob.fz 3
  have g4:=hob.fz 4
  clear hob
  go_wp2_with fail
  have hH5:=HH4.out.cd5 rfl (i64 0) (i64 0) (i64 0) (i64 0) (.slice none 0 0)
  generalize (((((w4.setCell ⟨w.heap.size,0,none⟩ (i64 0)).setCell ⟨w.heap.size,1,none⟩ (i64 0)).setCell ⟨w.heap.size,2,none⟩ (i64 0)).setCell ⟨w.heap.size,3,none⟩ (i64 0)).setCell ⟨w.heap.size,4,none⟩ (.slice none 0 0)) = w9 at hH5 ⊢
  have hob:=(hH5.has 0 _ rfl : IsObj w9 w.heap.size [i64 0,i64 0,i64 0,i64 0,.slice none 0 0] ∧ _).1
  have r0:=hob.at' 0 _ rfl
  have r1:=hob.at' 1 _ rfl
  have r2:=hob.at' 2 _ rfl
  have r3:=hob.at' 3 _ rfl
  have r4:=hob.at' 4 _ rfl
  exact bodyPost_ret (v:=.tuple #[scV 0 0 0 0 (.slice none 0 0),i64 0,i64 1]) (by simp [results,Tryz.results48,go_sem,r0,r1,r2,r3,r4]) rfl ⟨_,_,_,rfl,hH5.below,.conf t s so d r HL.out HR.out⟩
 have HR:=zI2 hr
 clear hr
 go_wp2_with fail
 refine (zBK t s so d true HR.out _).mono ?_
 rintro r' w4 ⟨rfl,hb⟩
 have HH4:=zI2 (HH3.out.later hb)
 clear HH3 hb q0 q1 q2 q3
 have hln:=HN.out
 subst hln
 have hHH5:=HH4.out.more (A:=tObj w.heap.size w4.heap.size (rdL (some ⟨b,off,none⟩) l cap 4 false)) (zAB (Below.refl _ _) (.cells #[.slice (some ⟨b,off,none⟩) l.length cap,.int .i64 4,.bool false] 145)) (zAQ _ _ _) ⟨IsObj.made w4 (rdL (some ⟨b,off,none⟩) l cap 4 false) 145,HH4.out.size⟩ (fun q hq=>by cases hq; exact Nat.le_refl _)
 have HD0 : Hid (DcH w (w4.alloc (.cells #[.slice (some ⟨b,off,none⟩) l.length cap,.int .i64 4,.bool false] 145)) w.heap.size sb w4.heap.size (some ⟨b,off,none⟩) l cap 4 t s so d none 0 []):=zI2 ⟨hHH5,HFW.out.1,by rw [HL.out]; rfl,rfl,(fun m hm=>by cases hm),by decide⟩
 have HRB:=zI2 (show b ≠ w4.heap.size from fun e=>by have:=HLT.out; have:=HH4.out.size; omega)
 have HSZ:=zI2 HH4.out.size
 clear hHH5 HH4 HX
 go_wp2_with fail
 generalize hrb : w4.heap.size = rb at HD0 HRB HSZ ⊢
 clear hrb
 generalize (w4.alloc (.cells #[.slice (some ⟨b,off,none⟩) l.length cap,.int .i64 4,.bool false] 145)) = w5 at HD0 ⊢
 go_loopw [7] (fun _ wr => ∃ (at' : Nat) (A1 : Option Addr) (cp1 : Nat) (ms : List CM),Hid (DcH w wr w.heap.size sb rb (some ⟨b,off,none⟩) l cap at' t s so d A1 cp1 ms)) (fun _ wx=>l.length - (RowKit.intOf ((wx.cell? ⟨rb,1,none⟩).getD undef)).toNat)
 case atStart=>exact ⟨4,_,_,[],HD0⟩
 case round =>
  clear HD0
  obtain ⟨at',A1,cp1,ms,HD⟩:=hrel
  have hh:=HD.out.h
  have hrdo:=(hh.has 3 _ rfl : IsObj wr rb (rdL (some ⟨b,off,none⟩) l cap at' false) ∧ _).1
  have HRD:=zI2 (show RdIn wr rb (some ⟨b,off,none⟩) l cap at' false from ⟨hrdo,H.out.later hh.below,HFW.out.2.1,fun b' off' e=>by cases e; exact HRB.out,HD.out.le,HBY.out,HFW.out.2.2⟩)
  have k1:=hrdo.at' 1 _ rfl
  have HHold:=zI2 hh
  have HIS:=zI2 (show l.drop 4 = encs ms ++ l.drop at' ∧ at' = 4 + (encs ms).length ∧ (∀ m ∈ ms,m.Good) ∧ ms.length ≤ 65536 from ⟨HD.out.is,HD.out.at4,HD.out.good,HD.out.few⟩)
  have hle:=HD.out.le
  have HK1:=zI2 k1
  clear hh hrdo
  have hdr : l.drop 4 = r:=by rw [HL.out]; rfl
  have HDR:=zI2 hdr
  clear hdr
  rcases Nat.lt_or_ge at' l.length with hlt | hge
  ·have hlt' : (at' : Int) < (l.length : Int):=by omega
   have HLE:=zI2 hlt
   clear HD
   go_wp2_with fail
   refine (zG4 rb (some ⟨b,off,none⟩) l cap at' _ HRD.out).mono ?_
   rintro r' w6 ⟨m,ok,rfl,k6,a2,s2,hR6,hM6⟩
   have HH6:=zI2 (HHold.out.turn 3 rfl (A':=tObj w.heap.size rb (rdL (some ⟨b,off,none⟩) l cap a2 s2)) k6 (zAQ _ _ _) ⟨hR6.obj,HSZ.out⟩ (fun q hq=>.inl hq))
   have HM6:=zI2 hM6
   have HR6:=zI2 hR6
   clear k6 hR6 hM6 HHold HRD k1
   have HH7:=zI2 (HH6.out.later (zAB (Below.refl _ _) (m.obj 39)))
   have HMB:=zI2 (IsObj.made w6 m.list 39)
   cases ok with
   | false =>
    clear HMB
    have hob:=(HH7.out.has 0 _ rfl : IsObj (w6.alloc (m.obj 39)) w.heap.size [i64 0,i64 0,i64 0,i64 0,.slice none 0 0] ∧ _).1
    have o0:=hob.at' 0 _ rfl
    have o1:=hob.at' 1 _ rfl
    have o2:=hob.at' 2 _ rfl
    have o3:=hob.at' 3 _ rfl
    have o4:=hob.at' 4 _ rfl
    have g0:=hob.fz 0
    have g1:=hob.fz 1
    have g2:=hob.fz 2
    have g3:=hob.fz 3
    have g4:=hob.fz 4
    clear hob
    go_wp2_with fail
    have hH5:=HH7.out.cd5 rfl (i64 0) (i64 0) (i64 0) (i64 0) (.slice none 0 0)
    generalize ((((((w6.alloc (m.obj 39)).setCell ⟨w.heap.size,0,none⟩ (i64 0)).setCell ⟨w.heap.size,1,none⟩ (i64 0)).setCell ⟨w.heap.size,2,none⟩ (i64 0)).setCell ⟨w.heap.size,3,none⟩ (i64 0)).setCell ⟨w.heap.size,4,none⟩ (.slice none 0 0)) = w9 at hH5 ⊢
    have hob:=(hH5.has 0 _ rfl : IsObj w9 w.heap.size [i64 0,i64 0,i64 0,i64 0,.slice none 0 0] ∧ _).1
    have r0:=hob.at' 0 _ rfl
    have r1:=hob.at' 1 _ rfl
    have r2:=hob.at' 2 _ rfl
    have r3:=hob.at' 3 _ rfl
    have r4:=hob.at' 4 _ rfl
    obtain ⟨i1,i2,i3,i4⟩:=HIS.out
    rcases HM6.out with ⟨_,hno⟩ | ⟨hf,_⟩
    ·have hd : DecIs r [] ((encs ms).length : Int) 3:=.form ms (l.drop at') i3 i4 (by rw [← HDR.out]; exact i1) (fun e=>by have:=HLE.out; rw [List.drop_eq_nil_iff] at e; omega) hno
     have hp:=DecPost.bad (w':=w9) (base:=w.heap.size) t s so d r _ _ HL.out HR.out hd (by decide)
     rw [show (((encs ms).length : Int) + 4) = (at' : Int) by omega] at hp
     refine bodyPost_ret (v:=.tuple #[scV 0 0 0 0 (.slice none 0 0),i64 at',i64 3]) (by simp [results,Tryz.results48,go_sem,r0,r1,r2,r3,r4]) rfl ⟨_,_,_,rfl,hH5.below, ?_⟩
     exact hp
    ·cases hf
   | true =>
    rcases (by have:=HIS.out.2.2.2; omega : ms.length = 65536 ∨ ms.length < 65536) with hn | hn
    ·have hn' : (ms.length : Int) = 65536:=by omega
     have HN6:=zI2 hn
     have hsb:=(HH7.out.has 1 _ rfl : IsObj (w6.alloc (m.obj 39)) sb [i64 t,i64 s,i64 so,i64 d,.slice A1 ms.length cp1] ∧ _).1
     have s4:=hsb.at' 4 _ rfl
     clear hsb HMB
     have hob:=(HH7.out.has 0 _ rfl : IsObj (w6.alloc (m.obj 39)) w.heap.size [i64 0,i64 0,i64 0,i64 0,.slice none 0 0] ∧ _).1
     have o0:=hob.at' 0 _ rfl
     have o1:=hob.at' 1 _ rfl
     have o2:=hob.at' 2 _ rfl
     have o3:=hob.at' 3 _ rfl
     have o4:=hob.at' 4 _ rfl
     have g0:=hob.fz 0
     have g1:=hob.fz 1
     have g2:=hob.fz 2
     have g3:=hob.fz 3
     have g4:=hob.fz 4
     clear hob
     go_wp2_with fail
     have hH5:=HH7.out.cd5 rfl (i64 0) (i64 0) (i64 0) (i64 0) (.slice none 0 0)
     generalize ((((((w6.alloc (m.obj 39)).setCell ⟨w.heap.size,0,none⟩ (i64 0)).setCell ⟨w.heap.size,1,none⟩ (i64 0)).setCell ⟨w.heap.size,2,none⟩ (i64 0)).setCell ⟨w.heap.size,3,none⟩ (i64 0)).setCell ⟨w.heap.size,4,none⟩ (.slice none 0 0)) = w9 at hH5 ⊢
     have hob:=(hH5.has 0 _ rfl : IsObj w9 w.heap.size [i64 0,i64 0,i64 0,i64 0,.slice none 0 0] ∧ _).1
     have r0:=hob.at' 0 _ rfl
     have r1:=hob.at' 1 _ rfl
     have r2:=hob.at' 2 _ rfl
     have r3:=hob.at' 3 _ rfl
     have r4:=hob.at' 4 _ rfl
     obtain ⟨i1,i2,i3,i4⟩:=HIS.out
     rcases HM6.out with ⟨hf,_⟩ | ⟨_,_,hg,r1',hr1,_⟩
     ·cases hf
     ·have hd : DecIs r [] ((encs ms).length : Int) 7:=.many ms m r1' i3 HN6.out (by rw [← HDR.out,i1,hr1]) hg
      have hp:=DecPost.bad (w':=w9) (base:=w.heap.size) t s so d r _ _ HL.out HR.out hd (by decide)
      rw [show (((encs ms).length : Int) + 4) = (at' : Int) by omega] at hp
      refine bodyPost_ret (v:=.tuple #[scV 0 0 0 0 (.slice none 0 0),i64 at',i64 7]) (by simp [results,Tryz.results48,go_sem,r0,r1,r2,r3,r4]) rfl ⟨_,_,_,rfl,hH5.below, ?_⟩
      exact hp
    ·have hn' : ((ms.length : Int) == 65536) = false:=beq_false_of_ne (by omega)
     have HN6:=zI2 hn
     have hsb:=(HH7.out.has 1 _ rfl : IsObj (w6.alloc (m.obj 39)) sb [i64 t,i64 s,i64 so,i64 d,.slice A1 ms.length cp1] ∧ _).1
     have s4:=hsb.at' 4 _ rfl
     have HW7:=zI2 (show (w6.alloc (m.obj 39)).heap.size = w6.heap.size + 1 by simp)
     have c0:=HMB.out.at' 0 _ rfl
     have c1:=HMB.out.at' 1 _ rfl
     have c2:=HMB.out.at' 2 _ rfl
     have c3:=HMB.out.at' 3 _ rfl
     have c4:=HMB.out.at' 4 _ rfl
     have c5:=HMB.out.at' 5 _ rfl
     have c6:=HMB.out.at' 6 _ rfl
     clear hsb hn HMB
     go_wp2_with (at_builtin; go_loud (refine zAL rfl _ _ 27 rfl w.heap.size 39 _ 7 56 zBA (.slice A1 ms.length cp1) ms.length (flatM ms) rfl ((HH7.out.later (zAB (Below.refl _ _) (m.obj 39))).has 2 _ rfl) (some ⟨_,0,none⟩) 1 1 m.list rfl (zBB _ _ m (by simp)) (by unfold maxLen; have:=HN6.out; omega) (by have:=HN6.out; omega) (HH7.out.later (zAB (Below.refl _ _) (m.obj 39))).size ?_); intro v' w8 hG; go_loud (obtain ⟨A2,cp2,rfl⟩:=zAM hG.own; have hH8:=(HH7.out.later (zAB (Below.refl _ _) (m.obj 39))).append 2 rfl rfl hG; have HH8:=zI2 hH8; have hs8:=(hH8.has 1 _ rfl : IsObj w8 sb [i64 t,i64 s,i64 so,i64 d,.slice A1 ms.length cp1] ∧ _).1; have z4:=hs8.at' 4 _ rfl; have y4:=hs8.fz 4; clear hs8 hH8 hG s4 c0 c1 c2 c3 c4 c5 c6 HH7))
     have hH9:=HH8.out.cdSet 1 rfl 4 (.slice A2 (ms.length + 1) cp2)
     obtain ⟨i1,i2,i3,i4⟩:=HIS.out
     rcases HM6.out with ⟨hf,_⟩ | ⟨_,hs2,hg,r1',hr1,ha2⟩
     ·cases hf
     subst hs2
     have hlen : (ms ++ [m]).length = ms.length + 1:=by simp
     have hfl : flatM (ms ++ [m]) = flatM ms ++ m.list:=by rw [zAS]; simp [flatM]
     have hrb : IsObj _ rb (rdL (some ⟨b,off,none⟩) l cap a2 false):=(hH9.has 3 _ rfl).1
     have hc1:=hrb.at' 1 _ rfl
     have hel:=zEU m
     have hd2 : l.drop a2 = r1':=by
      have h1 : l.drop a2 = (l.drop at').drop m.enc.length:=by rw [List.drop_drop,ha2]
      rw [h1,hr1,List.drop_left]
     have hle2:=HR6.out.le
     refine ⟨⟨a2,A2,cp2,ms ++ [m],zI2 ⟨?_,hle2, ?_, ?_, ?_, ?_⟩⟩, ?_⟩
     ·rw [hlen,hfl]
      exact hH9
     ·rw [i1,hr1,zBp,hd2,List.append_assoc]
     ·rw [zBp,List.length_append]
      omega
     ·intro x hx
      rcases List.mem_append.1 hx with hx | hx
      ·exact i3 x hx
      ·rw [List.mem_singleton.1 hx]
       exact hg
     ·have:=HN6.out
      rw [hlen]
      omega
     ·rw [hc1,HK1.out]
      simp only [Option.getD_some,RowKit.intOf,Int.toNat_natCast]
      have:=HLE.out
      omega
  ·have hge' : ¬ (at' : Int) < (l.length : Int):=by omega
   have hsb:=(HHold.out.has 1 _ rfl : IsObj wr sb [i64 t,i64 s,i64 so,i64 d,.slice A1 ms.length cp1] ∧ _).1
   have s0:=hsb.at' 0 _ rfl
   have s1:=hsb.at' 1 _ rfl
   have s2:=hsb.at' 2 _ rfl
   have s3:=hsb.at' 3 _ rfl
   have s4:=hsb.at' 4 _ rfl
   have HGE:=zI2 (show at' = l.length by omega)
   clear hsb HD HRD hge hle
   have hob:=(HHold.out.has 0 _ rfl : IsObj wr w.heap.size [i64 0,i64 0,i64 0,i64 0,.slice none 0 0] ∧ _).1
   have o0:=hob.at' 0 _ rfl
   have o1:=hob.at' 1 _ rfl
   have o2:=hob.at' 2 _ rfl
   have o3:=hob.at' 3 _ rfl
   have o4:=hob.at' 4 _ rfl
   have g0:=hob.fz 0
   have g1:=hob.fz 1
   have g2:=hob.fz 2
   have g3:=hob.fz 3
   have g4:=hob.fz 4
   clear hob
   go_wp2_with fail
   have hH5:=HHold.out.cd5 rfl (i64 t) (i64 s) (i64 so) (i64 d) (.slice A1 ms.length cp1)
   generalize (((((wr.setCell ⟨w.heap.size,0,none⟩ (i64 t)).setCell ⟨w.heap.size,1,none⟩ (i64 s)).setCell ⟨w.heap.size,2,none⟩ (i64 so)).setCell ⟨w.heap.size,3,none⟩ (i64 d)).setCell ⟨w.heap.size,4,none⟩ (.slice A1 ms.length cp1)) = w9 at hH5 ⊢
   have hob:=(hH5.has 0 _ rfl : IsObj w9 w.heap.size [i64 t,i64 s,i64 so,i64 d,.slice A1 ms.length cp1] ∧ _).1
   have r0:=hob.at' 0 _ rfl
   have r1:=hob.at' 1 _ rfl
   have r2:=hob.at' 2 _ rfl
   have r3:=hob.at' 3 _ rfl
   have r4:=hob.at' 4 _ rfl
   obtain ⟨i1,i2,i3,i4⟩:=HIS.out
   have hre : r = encs ms:=by rw [← HDR.out,i1,HGE.out,List.drop_length,List.append_nil]
   refine bodyPost_ret (v:=.tuple #[scV t s so d (.slice A1 ms.length cp1),i64 l.length,i64 0]) (by simp [results,Tryz.results48,go_sem,r0,r1,r2,r3,r4]) rfl ⟨_,_,_,rfl,hH5.below, ?_⟩
   exact .ok t s so d r ms A1 cp1 HL.out HR.out (.ok ms i3 i4 hre) (hH5.has 2 _ rfl)
end
section
open Go.RowKit
section
structure Tk where
 t : Int
 s : Int
 so : Int
 d : Int
 who : Int
 steps : Int
 seen : Int
 ph : Int
 lo : Int
 hi : Int
abbrev Tk.list (k : Tk) : List Value:=[i64 k.t,i64 k.s,i64 k.so,i64 k.d,i64 k.who,i64 k.steps,i64 k.seen,i64 k.ph,i64 k.lo,i64 k.hi]
structure IsTk (w : World) (b : Nat) (k : Tk) : Prop where
 c0 : w.cell? ⟨b,0,none⟩ = some (i64 k.t)
 c1 : w.cell? ⟨b,1,none⟩ = some (i64 k.s)
 c2 : w.cell? ⟨b,2,none⟩ = some (i64 k.so)
 c3 : w.cell? ⟨b,3,none⟩ = some (i64 k.d)
 c4 : w.cell? ⟨b,4,none⟩ = some (i64 k.who)
 c5 : w.cell? ⟨b,5,none⟩ = some (i64 k.steps)
 c6 : w.cell? ⟨b,6,none⟩ = some (i64 k.seen)
 c7 : w.cell? ⟨b,7,none⟩ = some (i64 k.ph)
 c8 : w.cell? ⟨b,8,none⟩ = some (i64 k.lo)
 c9 : w.cell? ⟨b,9,none⟩ = some (i64 k.hi)
 fz : ∀ o,w.frozen? ⟨b,o,none⟩ = false
theorem IsTk.lt {w : World} {b : Nat} {k : Tk} (h : IsTk w b k) : b < w.heap.size:=World.block_lt_of_cell? w _ h.c0
theorem IsTk.keep {w w' : World} {b : Nat} {k : Tk} {T : Nat → Prop} (h : IsTk w b k) (e : Keep T w w') (hn : ¬ T b) : IsTk w' b k :=
 ⟨e.cell h.c0 hn,e.cell h.c1 hn,e.cell h.c2 hn,e.cell h.c3 hn,e.cell h.c4 hn,e.cell h.c5 hn,e.cell h.c6 hn,e.cell h.c7 hn,e.cell h.c8 hn,e.cell h.c9 hn,fun o=>(e.frozen (a:=⟨b,o,none⟩) h.lt hn).trans (h.fz o)⟩
theorem IsTk.later {w w' : World} {b : Nat} {k : Tk} (h : IsTk w b k) (e : Below w.heap.size w w') : IsTk w' b k :=
 h.keep (T:=fun _=>False) (Keep.of_below e) (fun h=>h)
theorem IsTk.drew {w : World} {b : Nat} {k : Tk} (h : IsTk w b k) : IsTk w.drew b k:=⟨h.c0,h.c1,h.c2,h.c3,h.c4,h.c5,h.c6,h.c7,h.c8,h.c9,h.fz⟩
def low (x : Int) : Int:=min x 16777215
def fin (k : Tk) (lo hi : Int) : Tk:=if 0 ≤ lo ∧ lo ≤ hi ∧ hi < 16777215 then { k with ph:=1,lo:=lo,hi:=hi } else { k with ph:=2 }
def stp (nb : Nat) (k : Tk) (C : List Int) (now : Int) : Tk × List Int × Option Ev :=
 if k.ph = 0 then
  if k.so = 0 then (fin { k with steps:=k.steps + 1 } (low (C.getD nb 0)) (low (C.getD nb 0)),C.set nb (add64 (C.getD nb 0) 1),some ⟨k.who,3,nb,C.getD nb 0,add64 (C.getD nb 0) 1,true⟩)
  else if k.so = 1 then
   if k.steps < k.t then ({ k with steps:=k.steps + 1,seen:=max k.seen (low (C.getD (nb + k.steps.toNat) 0)) },C,some ⟨k.who,0,(nb + k.steps.toNat : Nat),C.getD (nb + k.steps.toNat) 0,C.getD (nb + k.steps.toNat) 0,true⟩)
   else if k.seen + 1 < 16777215 then ({ k with steps:=k.steps + 1,ph:=1,lo:=k.seen + 1,hi:=k.seen + 1 },C.set (nb + k.who.toNat) (k.seen + 1),some ⟨k.who,1,(nb + k.who.toNat : Nat),C.getD (nb + k.who.toNat) 0,k.seen + 1,true⟩)
   else ({ k with steps:=k.steps + 1,ph:=2 },C,none)
  else if k.so = 2 then
   if k.steps = 0 then ({ k with steps:=k.steps + 1,seen:=low (C.getD nb 0),ph:=if low (C.getD nb 0) = 16777215 then 2 else 0 },C,some ⟨k.who,0,nb,C.getD nb 0,C.getD nb 0,true⟩)
   else if k.steps = 1 then (if low (C.getD nb 0) = k.seen then { k with steps:=k.steps + 1 } else fin { k with steps:=k.steps + 1 } k.seen (low (C.getD nb 0) - 1),C,some ⟨k.who,0,nb,C.getD nb 0,C.getD nb 0,true⟩)
   else if k.steps = 2 then
    if C.getD nb 0 = k.seen then (fin { k with steps:=k.steps + 1 } k.seen k.seen,C.set nb (k.seen + 1),some ⟨k.who,2,nb,C.getD nb 0,k.seen + 1,true⟩)
    else ({ k with steps:=k.steps + 1 },C,some ⟨k.who,2,nb,C.getD nb 0,C.getD nb 0,false⟩)
   else (fin { k with steps:=k.steps + 1 } k.seen (low (C.getD nb 0) - 1),C,some ⟨k.who,0,nb,C.getD nb 0,C.getD nb 0,true⟩)
  else
   if k.so = 3 ∨ k.d < k.steps then (fin { k with steps:=k.steps + 1,seen:=if k.steps = 0 then low now else k.seen } (if k.steps = 0 then low now else k.seen) (low now),C,none)
   else ({ k with steps:=k.steps + 1,seen:=if k.steps = 0 then low now else k.seen },C,none)
 else (k,C,none)
structure Tk.Ok (k : Tk) (nb : Nat) (n : Int) (C : List Int) : Prop where
 lay : Lay k.t k.s n
 nt : (nb : Int) = 2 * n + k.t
 len : C.length = nb + k.t.toNat
 w0 : 0 ≤ k.who
 w1 : k.who < k.t
 s0 : 0 ≤ k.steps
 s1 : k.steps ≤ 1000000
 e0 : 0 ≤ k.seen
 e1 : k.seen ≤ 16777215
 o0 : 0 ≤ k.so
 o1 : k.so ≤ 4
 d0 : 0 ≤ k.d
 d1 : k.d ≤ 100
 p0 : 0 ≤ k.ph
 p1 : k.ph ≤ 2
 sw : k.so = 2 → 1 ≤ k.steps → k.ph = 0 → k.seen < 16777215
structure Stepped (base : Nat) (w w' : World) (b p c : Nat) (v v' : Value) (k' : Tk) (C' : List Int) (L' : List Ev) : Prop where
 tk : IsTk w' b k'
 mem : IsMem base w' p c v' C' L'
 apart : ¬ Foot p c v' b
 keep : Keep (fun i=>i = b ∨ Foot p c v i) w w'
 moved : Moved w v v'
 size : base ≤ w'.heap.size
section
variable {base : Nat} {w w1 w2 : World} {b p c : Nat} {v v1 v2 : Value} {k k1 k2 : Tk} {C C1 C2 : List Int} {L L1 L2 : List Ev}
theorem Stepped.refl (hT : IsTk w b k) (hM : IsMem base w p c v C L) (ha : ¬ Foot p c v b) (hb : base ≤ w.heap.size) : Stepped base w w b p c v v k C L :=
 ⟨hT,hM,ha,Keep.refl _ _,zBR _ _,hb⟩
theorem Stepped.later (h : Stepped base w w1 b p c v v1 k C L) (e : Below w1.heap.size w1 w2) : Stepped base w w2 b p c v v1 k C L :=
 ⟨h.tk.later e,h.mem.later e,h.apart,h.keep.trans (Keep.of_below e),h.moved,Nat.le_trans h.size e.size⟩
theorem Stepped.own (h : Stepped base w w1 b p c v v1 k C L) (hT : IsTk w2 b k2) (e : Keep (· = b) w1 w2) : Stepped base w w2 b p c v v1 k2 C L :=
 ⟨hT,h.mem.keep e (fun i hi hb=>h.apart (hb ▸ hi)),h.apart,h.keep.trans (e.mono fun _ h=>.inl h),h.moved,Nat.le_trans h.size e.size⟩
theorem Stepped.cells (h : Stepped base w w1 b p c v v1 k C L) (t : Touched base w1 w2 p c v1 v2 C2 L2) : Stepped base w w2 b p c v v2 k C2 L2 :=
 ⟨h.tk.keep t.keep h.apart,t.mem,fun hf=>(zEc t hf).elim h.apart (fun hs=>absurd h.tk.lt (by omega)),
  h.keep.then' t.keep (fun i hi=>by
   rcases hi with h1 | h1 | h1
   ·exact .inl (.inr (.inl h1))
   ·exact .inl (.inr (.inr (.inl h1)))
   ·exact (h.moved i h1).imp (fun h=>.inr (.inr (.inr h))) id),h.moved.trans t.moved h.keep.size,Nat.le_trans h.size t.keep.size⟩
theorem Stepped.trans (h : Stepped base w w1 b p c v v1 k C L) (t : Stepped base w1 w2 b p c v1 v2 k2 C2 L2) : Stepped base w w2 b p c v v2 k2 C2 L2 :=
 ⟨t.tk,t.mem,t.apart,h.keep.then' t.keep (fun i hi=>by
   rcases hi with h1 | h1 | h1 | h1
   ·exact .inl (.inl h1)
   ·exact .inl (.inr (.inl h1))
   ·exact .inl (.inr (.inr (.inl h1)))
   ·exact (h.moved i h1).imp (fun h=>.inr (.inr (.inr h))) id),h.moved.trans t.moved h.keep.size,t.size⟩
theorem Stepped.drew (h : Stepped base w w1 b p c v v1 k C L) : Stepped base w w1.drew b p c v v1 k C L:=h.later (Below.refl _ _).drew
end
def TickPost (base : Nat) (w : World) (b p c : Nat) (v : Value) (k' : Tk) (C' : List Int) (L' : List Ev) (e0 : Ending) (e : Ending) (w' : World) : Prop :=
 e = e0 ∧ ∃ v',Stepped base w w' b p c v v' k' C' L'
end
section
theorem zDp (x : Int) (h0 : 0 ≤ x) : 0 ≤ low x ∧ low x ≤ 16777215:=by unfold low; omega
theorem zEk {a b : Int} (h : a = b) : Ending.returned (i64 a) = .returned (i64 b):=by rw [h]
theorem zCM (x : Int) (w : World) (h0 : 0 ≤ x) (h1 : x ≤ 18446744073709551615) :
  Calls Tryz.prog 166 #[u64 x] w fun r w'=>r = .returned (i64 (low x)) ∧ w = w':=by
 by_cases hx : x ≤ 16777215
 ·have e : low x = x:=by unfold low; omega
  have E:=zI2 e
  clear e
  go_enter Tryz.func166,Tryz.ntmps166
  go_wp2
  go_ret
  exact ⟨zEk (by rw [E.out]),rfl⟩
 ·have e : low x = 16777215:=by unfold low; omega
  have E:=zI2 e
  clear e
  go_enter Tryz.func166,Tryz.ntmps166
  go_wp2
  go_ret
  exact ⟨zEk (by rw [E.out]),rfl⟩
theorem setTk {w : World} {b : Nat} {k k' : Tk} (h : IsTk w b k) (i : Nat) (u : Value) (hk : (k.list.set i u) = k'.list) : IsTk (w.setCell ⟨b,i,none⟩ u) b k':=by
 have hc : ∀ j x,k.list[j]? = some x → w.cell? ⟨b,j,none⟩ = some x:=by
  intro j x hj
  obtain ⟨c0,c1,c2,c3,c4,c5,c6,c7,c8,c9,_⟩:=h
  rcases j with _ | _ | _ | _ | _ | _ | _ | _ | _ | _ | j
  all_goals first | (simp at hj; subst hj; assumption) | (simp at hj)
 have hn : ∀ j x,k'.list[j]? = some x → (w.setCell ⟨b,i,none⟩ u).cell? ⟨b,j,none⟩ = some x:=by
  intro j x hj
  rw [← hk,List.getElem?_set] at hj
  by_cases hij : i = j
  ·subst hij
   simp only [if_true] at hj
   split at hj
   ·rename_i hl
    cases hj
    exact World.cell?_setCell_same _ _ _ (hc i _ (List.getElem?_eq_getElem hl))
   ·cases hj
  ·rw [if_neg hij] at hj
   rw [World.cell?_setCell_other _ _ _ _ (fun e=>hij (by injection e))]
   exact hc j x hj
 exact ⟨hn 0 _ rfl,hn 1 _ rfl,hn 2 _ rfl,hn 3 _ rfl,hn 4 _ rfl,hn 5 _ rfl,hn 6 _ rfl,hn 7 _ rfl,hn 8 _ rfl,hn 9 _ rfl,fun o=>by rw [World.frozen?_setCell]; exact h.fz o⟩
def At2 (b : Nat) (x y : Int) (w : World) : Prop:=w.cell? ⟨b,0,none⟩ = some (i64 x) ∧ w.cell? ⟨b,1,none⟩ = some (i64 y)
theorem Keep.own {b : Nat} {w w' : World} (h : Keep (· = b) w w') (o : Nat) (u : Value) : Keep (· = b) w (w'.setCell ⟨b,o,none⟩ u):=h.setCell _ rfl u
theorem At2.set {b a x y : _} {w : World} (h : At2 b x y w) (o : Nat) (u : Value) (hne : a ≠ b) : At2 b x y (w.setCell ⟨a,o,none⟩ u) :=
 ⟨by rw [World.cell?_setCell_other _ _ _ _ (fun e=>hne (by injection e))]; exact h.1,by rw [World.cell?_setCell_other _ _ _ _ (fun e=>hne (by injection e))]; exact h.2⟩
theorem zDD (w : World) (b : Nat) (k : Tk) (x y : Int) (hT : IsTk w b k) (h : 0 ≤ x ∧ x ≤ y ∧ y < 16777215) :
  Calls Tryz.prog 168 #[pt b,i64 x,i64 y] w fun r w'=>r = .returned (.bool true) ∧ IsTk w' b { k with ph:=1,lo:=x,hi:=y } ∧ Keep (· = b) w w':=by
 have hr : rightB x y = true:=by simp [rightB,h]
 have hlt:=hT.lt
 have hR:=fun W=>zBc x y W
 rw [hr] at hR
 have HR:=zI2 hR
 have HT:=zI2 hT
 clear hR hr hT h
 go_enter Tryz.func168,Tryz.ntmps168
 go_wp2_with fail
 refine (HR.out _).mono ?_
 rintro r w1 ⟨rfl,hb1⟩
 have hA : At2 w.heap.size x y w1:=⟨by rw [hb1.cell (p:=⟨w.heap.size,0,none⟩) (by simp)]; exact World.cell?_alloc_new w _ _ 0,by rw [hb1.cell (p:=⟨w.heap.size,1,none⟩) (by simp)]; exact World.cell?_alloc_new w _ _ 1⟩
 have hT1:=(HT.out.later (zAB (Below.refl _ _) (.cells #[.int .i64 x,.int .i64 y] 73))).later hb1
 have hB1 : Below w.heap.size w w1:=zAA (zAB (Below.refl _ _) _) hb1
 have HB1:=zI2 hB1
 have HA:=zI2 hA
 clear hA hB1 hb1
 go_wp2_with fail
 refine zAF ((At2 w.heap.size x y)) ((0,true) :: (1,true) :: (2,true) :: (3,true) :: (4,true) :: (5,false) :: (6,true) :: (7,true) :: (8,false) :: []) (by kernel_rfl) (by kernel_rfl) (by kernel_rfl) (by decide) (fun _ _ _ _ _ h=>h) (HA.out) ?_
 repeat ((first | (refine zAC (v := ?_) rfl ?_ ?_ ?_; rotate_left 1; rfl; focus (rintro wS ⟨s0,s1⟩; go_simp <;> with_reducible rfl)) | (refine zAD rfl ?_ ?_; rfl)); try simp only [Act.put,qset])
 obtain ⟨c0,c1,c2,c3,c4,c5,c6,c7,c8,c9,fz⟩:=id hT1
 have f7:=fz 7
 have f8:=fz 8
 have f9:=fz 9
 clear fz
 refine zAG rfl (fun K hK=>?_)
 go_simp
 have hne : b ≠ w.heap.size:=by omega
 have hA2:=(HA.out.set 7 (.int .i64 1) hne)
 have HA2:=zI2 hA2
 clear hA2
 refine hK.out _ _ (HA2.out) (fun _=>?_)
 (try simp only [Act.put,qset])
 clear hK K
 repeat ((first | (refine zAC (v := ?_) rfl ?_ ?_ ?_; rotate_left 1; rfl; focus (rintro wS ⟨s0,s1⟩; go_simp <;> with_reducible rfl)) | (refine zAD rfl ?_ ?_; rfl)); try simp only [Act.put,qset])
 refine zAG rfl (fun K hK=>?_)
 go_simp
 have hA3:=(HA2.out.set 8 (.int .i64 x) hne).set 9 (.int .i64 y) hne
 have HA3:=zI2 hA3
 clear hA3
 refine hK.out _ _ (HA3.out) (fun _=>?_)
 (try simp only [Act.put,qset])
 clear hK K
 refine zAI ?_
 go_wp2
 go_ret
 have hT2:=setTk hT1 (k' := { k with ph:=1 }) 7 (.int .i64 1) rfl
 have hT3:=setTk hT2 (k' := { k with ph:=1,lo:=x }) 8 (.int .i64 x) rfl
 have hT4:=setTk hT3 (k' := { k with ph:=1,lo:=x,hi:=y }) 9 (.int .i64 y) rfl
 exact ⟨rfl,hT4.drew,((((Keep.of_below HB1.out).own 7 _).own 8 _).own 9 _).drew⟩
theorem zDk (w : World) (b : Nat) (k : Tk) (x y : Int) (hT : IsTk w b k) (h : ¬ (0 ≤ x ∧ x ≤ y ∧ y < 16777215)) :
  Calls Tryz.prog 168 #[pt b,i64 x,i64 y] w fun r w'=>r = .returned (.bool false) ∧ IsTk w' b { k with ph:=2 } ∧ Keep (· = b) w w':=by
 have hr : rightB x y = false:=by simp only [rightB,decide_eq_false_iff_not]; exact h
 have hR:=fun W=>zBc x y W
 rw [hr] at hR
 have HR:=zI2 hR
 have HT:=zI2 hT
 clear hR hr hT h
 go_enter Tryz.func168,Tryz.ntmps168
 go_wp2_with fail
 refine (HR.out _).mono ?_
 rintro r w1 ⟨rfl,hb1⟩
 have hT1:=(HT.out.later (zAB (Below.refl _ _) (.cells #[.int .i64 x,.int .i64 y] 73))).later hb1
 have hB1 : Below w.heap.size w w1:=zAA (zAB (Below.refl _ _) _) hb1
 have HB1:=zI2 hB1
 clear hB1 hb1
 have c7:=hT1.c7
 have f7:=hT1.fz 7
 have HT1:=zI2 hT1
 clear hT1
 go_wp2
 go_ret
 exact ⟨rfl,setTk HT1.out (k' := { k with ph:=2 }) 7 (.int .i64 2) rfl,(Keep.of_below HB1.out).own 7 _⟩
theorem zBw (k : Tk) {x y : Int} (h : 0 ≤ x ∧ x ≤ y ∧ y < 16777215) : fin k x y = { k with ph:=1,lo:=x,hi:=y }:=if_pos h
theorem zIL (k : Tk) {x y : Int} (h : ¬ (0 ≤ x ∧ x ≤ y ∧ y < 16777215)) : fin k x y = { k with ph:=2 }:=if_neg h
theorem zAe (w : World) (b : Nat) (k : Tk) (x y : Int) (hT : IsTk w b k) :
  Calls Tryz.prog 168 #[pt b,i64 x,i64 y] w fun r w'=>(∃ g,r = .returned (.bool g)) ∧ IsTk w' b (fin k x y) ∧ Keep (· = b) w w':=by
 by_cases h : 0 ≤ x ∧ x ≤ y ∧ y < 16777215
 ·rw [zBw k h]
  exact (zDD w b k x y hT h).mono fun r w' ⟨h1,h2⟩=>⟨⟨_,h1⟩,h2⟩
 ·rw [zIL k h]
  exact (zDk w b k x y hT h).mono fun r w' ⟨h1,h2⟩=>⟨⟨_,h1⟩,h2⟩
theorem zGw (t s so d n : Int) (nb j : Nat) (w : World) (h : Lay t s n) (hnb : (nb : Int) = 2 * n + t) (hj : (j : Int) ≤ t) :
  Calls Tryz.prog 111 #[cf t s so d,i64 j] w fun r w'=>r = .returned (i64 (nb + j : Nat)) ∧ Below w.heap.size w w':=by
 have:=zBb t s so d n j w h (by omega) hj
 rw [show (2 * n + t + (j : Int)) = ((nb + j : Nat) : Int) by omega] at this
 exact this
theorem zGF (t s so d n : Int) (nb : Nat) (w : World) (h : Lay t s n) (hnb : (nb : Int) = 2 * n + t) :
  Calls Tryz.prog 111 #[cf t s so d,i64 0] w fun r w'=>r = .returned (i64 nb) ∧ Below w.heap.size w w':=by
 have:=zBb t s so d n 0 w h (by omega) (by have:=h.t1; omega)
 rw [show (2 * n + t + (0 : Int)) = (nb : Int) by omega] at this
 exact this
section
variable (base : Nat) (w : World) (b p c : Nat) (v : Value) (C : List Int) (L : List Ev) (k : Tk) (nb : Nat) (n : Int)
theorem zDq (j : Nat) (x : Int) (hT : IsTk w b k) (hM : IsMem base w p c v C L) (ha : ¬ Foot p c v b) (hl : Lay k.t k.s n) (hnb : (nb : Int) = 2 * n + k.t) (hj : (j : Int) ≤ k.t) (hx : C[nb + j]? = some x) (hb : base ≤ w.heap.size) (hL : L.length < 1000000000) :
  Calls Tryz.prog 169 #[pt b,pt p,i64 j] w (TickPost base w b p c v k C (L ++ [⟨k.who,0,(nb + j : Nat),x,x,true⟩]) (.returned (i64 (low x)))):=by
 have HS:=zI2 (Stepped.refl hT hM ha hb)
 have HX:=zI2 hx
 have Hnb:=zI2 hnb
 have hn:=hM.numAt hx
 clear hM ha hx hnb
 go_enter Tryz.func169,Tryz.ntmps169
 go_wp2_with fail
 refine zAF ((fun w'=>IsTk w' b k)) ((0,true) :: (1,true) :: (2,true) :: (3,true) :: (4,true) :: (5,true) :: (6,true) :: (7,true) :: (8,true) :: (9,true) :: (10,false) :: (11,false) :: (12,false) :: (13,true) :: []) (by kernel_rfl) (by kernel_rfl) (by kernel_rfl) (by decide) (fun _ _ _ _ _ h=>h) (hT.drew) ?_
 clear hT
 repeat ((first | (refine zAC (v := ?_) rfl ?_ ?_ ?_; rotate_left 1; rfl; focus (rintro wS ⟨s0,s1,s2,s3,s4,s5,s6,s7,s8,s9,sf⟩; go_simp <;> with_reducible rfl)) | (refine zAD rfl ?_ ?_; rfl)); try simp only [Act.put,qset])
 refine zAG rfl (fun K hK=>?_)
 go_simp
 go_at_call 111
 refine (zGw _ _ _ _ n nb j _ hl Hnb.out hj).mono ?_
 rintro r w1 ⟨rfl,hb1⟩
 (try go_wp2_with fail)
 replace HS:=zI2 (HS.out.drew.later hb1)
 clear hb1
 refine hK.out _ _ (HS.out.tk) (fun _=>?_)
 (try simp only [Act.put,qset])
 clear hK K
 repeat ((first | (refine zAC (v := ?_) rfl ?_ ?_ ?_; rotate_left 1; rfl; focus (rintro wS ⟨s0,s1,s2,s3,s4,s5,s6,s7,s8,s9,sf⟩; go_simp <;> with_reducible rfl)) | (refine zAD rfl ?_ ?_; rfl)); try simp only [Act.put,qset])
 refine zAG rfl (fun K hK=>?_)
 go_simp
 go_at_call 164
 refine (zAu base _ p c _ _ _ k.who (nb + j) x HS.out.mem HX.out HS.out.size hL).mono ?_
 rintro r w2 ⟨rfl,v2,hT2⟩
 (try go_wp2_with fail)
 replace HS:=zI2 (HS.out.cells hT2)
 clear hT2
 refine hK.out _ _ (HS.out.tk) (fun _=>?_)
 (try simp only [Act.put,qset])
 clear hK K
 repeat ((first | (refine zAC (v := ?_) rfl ?_ ?_ ?_; rotate_left 1; rfl; focus (rintro wS ⟨s0,s1,s2,s3,s4,s5,s6,s7,s8,s9,sf⟩; go_simp <;> with_reducible rfl)) | (refine zAD rfl ?_ ?_; rfl)); try simp only [Act.put,qset])
 refine zAG rfl (fun K hK=>?_)
 go_simp
 go_at_call 166
 refine (zCM x _ hn.1 hn.2).mono ?_
 rintro r w3 ⟨rfl,rfl⟩
 (try go_wp2_with fail)
 refine hK.out _ _ (HS.out.tk) (fun _=>?_)
 (try simp only [Act.put,qset])
 clear hK K
 repeat ((first | (refine zAC (v := ?_) rfl ?_ ?_ ?_; rotate_left 1; rfl; focus (rintro wS ⟨s0,s1,s2,s3,s4,s5,s6,s7,s8,s9,sf⟩; go_simp <;> with_reducible rfl)) | (refine zAD rfl ?_ ?_; rfl)); try simp only [Act.put,qset])
 refine zAI ?_
 go_wp2
 go_ret
 exact ⟨rfl,_,HS.out⟩
theorem zFL (x : Int) (hT : IsTk w b k) (hM : IsMem base w p c v C L) (ha : ¬ Foot p c v b) (hl : Lay k.t k.s n) (hnb : (nb : Int) = 2 * n + k.t) (hx : C[nb]? = some x) (hb : base ≤ w.heap.size) (hL : L.length < 1000000000) :
  Calls Tryz.prog 148 #[pt b,pt p] w (TickPost base w b p c v (fin k (low x) (low x)) (C.set nb (add64 x 1)) (L ++ [⟨k.who,3,nb,x,add64 x 1,true⟩]) (.returned (.tuple #[]))):=by
 have HS:=zI2 (Stepped.refl hT hM ha hb)
 have HX:=zI2 hx
 have Hnb:=zI2 hnb
 have hn:=hM.numAt hx
 clear hM ha hx hnb
 go_enter Tryz.func148,Tryz.ntmps148
 go_wp2_with fail
 refine zAF ((fun w'=>IsTk w' b k)) ((0,true) :: (1,true) :: (2,true) :: (3,true) :: (4,true) :: (5,true) :: (6,true) :: (7,true) :: (8,true) :: (9,false) :: (10,false) :: (11,false) :: (12,true) :: []) (by kernel_rfl) (by kernel_rfl) (by kernel_rfl) (by decide) (fun _ _ _ _ _ h=>h) (hT.drew) ?_
 clear hT
 repeat ((first | (refine zAC (v := ?_) rfl ?_ ?_ ?_; rotate_left 1; rfl; focus (rintro wS ⟨s0,s1,s2,s3,s4,s5,s6,s7,s8,s9,sf⟩; go_simp <;> with_reducible rfl)) | (refine zAD rfl ?_ ?_; rfl)); try simp only [Act.put,qset])
 refine zAG rfl (fun K hK=>?_)
 go_simp
 go_at_call 111
 refine (zGF _ _ _ _ n nb _ hl Hnb.out).mono ?_
 rintro r w1 ⟨rfl,hb1⟩
 (try go_wp2_with fail)
 replace HS:=zI2 (HS.out.drew.later hb1)
 clear hb1
 refine hK.out _ _ (HS.out.tk) (fun _=>?_)
 (try simp only [Act.put,qset])
 clear hK K
 repeat ((first | (refine zAC (v := ?_) rfl ?_ ?_ ?_; rotate_left 1; rfl; focus (rintro wS ⟨s0,s1,s2,s3,s4,s5,s6,s7,s8,s9,sf⟩; go_simp <;> with_reducible rfl)) | (refine zAD rfl ?_ ?_; rfl)); try simp only [Act.put,qset])
 refine zAG rfl (fun K hK=>?_)
 go_simp
 go_at_call 167
 refine (add_in base _ p c _ _ _ k.who nb x 1 HS.out.mem HX.out HS.out.size hL).mono ?_
 rintro r w2 ⟨rfl,v2,hT2⟩
 (try go_wp2_with fail)
 replace HS:=zI2 (HS.out.cells hT2)
 clear hT2
 refine hK.out _ _ (HS.out.tk) (fun _=>?_)
 (try simp only [Act.put,qset])
 clear hK K
 repeat ((first | (refine zAC (v := ?_) rfl ?_ ?_ ?_; rotate_left 1; rfl; focus (rintro wS ⟨s0,s1,s2,s3,s4,s5,s6,s7,s8,s9,sf⟩; go_simp <;> with_reducible rfl)) | (refine zAD rfl ?_ ?_; rfl)); try simp only [Act.put,qset])
 refine zAG rfl (fun K hK=>?_)
 go_simp
 go_at_call 166
 refine (zCM x _ hn.1 hn.2).mono ?_
 rintro r w3 ⟨rfl,rfl⟩
 (try go_wp2_with fail)
 refine hK.out _ _ (HS.out.tk) (fun _=>?_)
 (try simp only [Act.put,qset])
 clear hK K
 repeat ((first | (refine zAC (v := ?_) rfl ?_ ?_ ?_; rotate_left 1; rfl; focus (rintro wS ⟨s0,s1,s2,s3,s4,s5,s6,s7,s8,s9,sf⟩; go_simp <;> with_reducible rfl)) | (refine zAD rfl ?_ ?_; rfl)); try simp only [Act.put,qset])
 refine zAI ?_
 go_wp2_with fail
 refine (zAe _ b k _ _ HS.out.tk).mono ?_
 rintro r w4 ⟨⟨g,rfl⟩,hT4,hK4⟩
 go_wp2
 go_end0
 exact ⟨rfl,_,HS.out.own hT4 hK4⟩
end
end
section
section
variable (base : Nat) (w : World) (b p c : Nat) (v : Value) (C : List Int) (L : List Ev) (k : Tk) (nb : Nat) (n : Int)
theorem zHm (i : Int) (j : Nat) (hi : i = (j : Int)) (x : Int) (hT : IsTk w b k) (hM : IsMem base w p c v C L) (ha : ¬ Foot p c v b) (hl : Lay k.t k.s n) (hnb : (nb : Int) = 2 * n + k.t) (hj : (j : Int) ≤ k.t) (hx : C[nb + j]? = some x) (hb : base ≤ w.heap.size) (hL : L.length < 1000000000) :
  Calls Tryz.prog 169 #[pt b,pt p,i64 i] w (TickPost base w b p c v k C (L ++ [⟨k.who,0,(nb + j : Nat),x,x,true⟩]) (.returned (i64 (low x)))):=by
 subst hi
 exact zDq base w b p c v C L k nb n j x hT hM ha hl hnb hj hx hb hL
theorem zDe (x : Int) (hT : IsTk w b k) (hM : IsMem base w p c v C L) (ha : ¬ Foot p c v b) (hl : Lay k.t k.s n) (hnb : (nb : Int) = 2 * n + k.t) (hx : C[nb]? = some x) (hb : base ≤ w.heap.size) (hL : L.length < 1000000000) :
  Calls Tryz.prog 169 #[pt b,pt p,i64 0] w (TickPost base w b p c v k C (L ++ [⟨k.who,0,nb,x,x,true⟩]) (.returned (i64 (low x)))) :=
 zDq base w b p c v C L k nb n 0 x hT hM ha hl hnb (by have:=hl.t1; omega) hx hb hL
theorem zD3 (j : Nat) (x : Int) (hj : k.steps = (j : Int)) (hlt : k.steps < k.t) (hT : IsTk w b k) (hM : IsMem base w p c v C L) (ha : ¬ Foot p c v b) (hl : Lay k.t k.s n) (hnb : (nb : Int) = 2 * n + k.t) (hx : C[nb + j]? = some x) (hb : base ≤ w.heap.size) (hL : L.length < 1000000000) :
    Calls Tryz.prog 149 #[pt b,pt p] w (TickPost base w b p c v { k with seen:=max k.seen (low x) } C (L ++ [⟨k.who,0,(nb + j : Nat),x,x,true⟩]) (.returned (.tuple #[]))):=by
  have HS:=zI2 (Stepped.refl hT hM ha hb)
  have HX:=zI2 hx
  have Hnb:=zI2 hnb
  have Hj:=zI2 hj
  have hjt : (j : Int) ≤ k.t:=by omega
  clear hM ha hx hnb hj
  go_enter Tryz.func149,Tryz.ntmps149
  go_wp2_with fail
  refine zAF ((fun w'=>IsTk w' b k)) ((0,true) :: (1,true) :: (2,true) :: (3,true) :: (4,true) :: (5,true) :: (6,true) :: (7,true) :: (8,true) :: (9,true) :: []) (by kernel_rfl) (by kernel_rfl) (by kernel_rfl) (by decide) (fun _ _ _ _ _ h=>h) (hT.drew) ?_
  clear hT
  repeat ((first | (refine zAC (v := ?_) rfl ?_ ?_ ?_; rotate_left 1; rfl; focus (rintro wS ⟨s0,s1,s2,s3,s4,s5,s6,s7,s8,s9,sf⟩; go_simp <;> with_reducible rfl)) | (refine zAD rfl ?_ ?_; rfl)); try simp only [Act.put,qset])
  refine zAI ?_
  replace HS:=zI2 HS.out.drew
  obtain ⟨s0,s1,s2,s3,s4,s5,s6,s7,s8,s9,sf⟩:=id HS.out.tk
  have f6:=sf 6
  clear sf
  go_wp2_with fail
  replace HS:=zI2 HS.out.drew
  go_region_law (go_simp; go_at_call 169; refine (zHm base _ b p c _ C L k nb n _ j Hj.out x HS.out.tk HS.out.mem HS.out.apart hl Hnb.out hjt HX.out HS.out.size hL).mono ?_; rintro r w1 ⟨rfl,v1,hS1⟩; obtain ⟨t0,t1,t2,t3,t4,t5,t6,t7,t8,t9,tf⟩:=id hS1.tk; have g6:=tf 6; clear tf)
  all_goals
    replace HS:=zI2 (HS.out.trans hS1)
    clear hS1
    go_wp2
  all_goals
    go_end0
    first
    | (rw [show max k.seen (low x) = low x by omega]
       exact ⟨rfl,_,HS.out.own (setTk HS.out.tk (k' := { k with seen:=low x }) 6 (.int .i64 (low x)) rfl) ((Keep.refl _ _).own 6 _)⟩)
    | (rw [show max k.seen (low x) = k.seen by omega]
       exact ⟨rfl,_,HS.out.own (setTk HS.out.tk (k' := { k with seen:=k.seen }) 6 (.int .i64 k.seen) rfl) ((Keep.refl _ _).own 6 _)⟩)
theorem zD8 (hge : k.t ≤ k.steps) (e0 : 0 ≤ k.seen) (e1 : k.seen ≤ 16777215) (hfull : 16777215 ≤ k.seen + 1) (hT : IsTk w b k) (hM : IsMem base w p c v C L) (ha : ¬ Foot p c v b) (hb : base ≤ w.heap.size) :
  Calls Tryz.prog 149 #[pt b,pt p] w (TickPost base w b p c v { k with ph:=2 } C L (.returned (.tuple #[]))):=by
 have HS:=zI2 (Stepped.refl hT hM ha hb)
 have hge' : ¬ k.steps < k.t:=by omega
 clear hM ha
 go_enter Tryz.func149,Tryz.ntmps149
 go_wp2_with fail
 refine zAF ((fun w'=>IsTk w' b k)) ((0,true) :: (1,true) :: (2,true) :: (3,true) :: (4,true) :: (5,true) :: (6,true) :: (7,true) :: (8,true) :: (9,true) :: []) (by kernel_rfl) (by kernel_rfl) (by kernel_rfl) (by decide) (fun _ _ _ _ _ h=>h) (hT.drew) ?_
 clear hT
 repeat ((first | (refine zAC (v := ?_) rfl ?_ ?_ ?_; rotate_left 1; rfl; focus (rintro wS ⟨s0,s1,s2,s3,s4,s5,s6,s7,s8,s9,sf⟩; go_simp <;> with_reducible rfl)) | (refine zAD rfl ?_ ?_; rfl)); try simp only [Act.put,qset])
 refine zAI ?_
 replace HS:=zI2 HS.out.drew
 obtain ⟨s0,s1,s2,s3,s4,s5,s6,s7,s8,s9,sf⟩:=id HS.out.tk
 clear sf
 go_wp2_with fail
 refine (zDk _ b k _ _ HS.out.tk (by omega)).mono ?_
 rintro r w1 ⟨rfl,hT1,hK1⟩
 replace HS:=zI2 (HS.out.own hT1 hK1)
 clear hT1 hK1 s0 s1 s2 s3 s4 s5 s6 s7 s8 s9
 go_wp2
 go_end0
 exact ⟨rfl,_,HS.out⟩
theorem zDz (j : Nat) (x : Int) (hj : k.who = (j : Int)) (hjt : k.who < k.t) (hge : k.t ≤ k.steps) (e0 : 0 ≤ k.seen) (hfull : k.seen + 1 < 16777215) (hT : IsTk w b k) (hM : IsMem base w p c v C L) (ha : ¬ Foot p c v b) (hl : Lay k.t k.s n) (hnb : (nb : Int) = 2 * n + k.t) (hx : C[nb + j]? = some x) (hb : base ≤ w.heap.size) (hL : L.length < 1000000000) :
  Calls Tryz.prog 149 #[pt b,pt p] w (TickPost base w b p c v { k with ph:=1,lo:=k.seen + 1,hi:=k.seen + 1 } (C.set (nb + j) (k.seen + 1)) (L ++ [⟨k.who,1,(nb + j : Nat),x,k.seen + 1,true⟩]) (.returned (.tuple #[]))):=by
 have HS:=zI2 (Stepped.refl hT hM ha hb)
 have HX:=zI2 hx
 have Hnb:=zI2 hnb
 have hjt' : (j : Int) ≤ k.t:=by omega
 have HN:=fun W=>zGw k.t k.s k.so k.d n nb j W hl hnb hjt'
 rw [← hj] at HN
 have EW : Hid (IntKind.u64.wrap (k.seen + 1) = k.seen + 1):=by show _ = _; rw [IntKind.wrap_u64]; omega
 replace HN:=zI2 HN
 have hge' : ¬ k.steps < k.t:=by omega
 clear hM ha hx hnb hj
 go_enter Tryz.func149,Tryz.ntmps149
 go_wp2_with fail
 refine zAF ((fun w'=>IsTk w' b k)) ((0,true) :: (1,true) :: (2,true) :: (3,true) :: (4,true) :: (5,true) :: (6,true) :: (7,true) :: (8,true) :: (9,true) :: []) (by kernel_rfl) (by kernel_rfl) (by kernel_rfl) (by decide) (fun _ _ _ _ _ h=>h) (hT.drew) ?_
 clear hT
 repeat ((first | (refine zAC (v := ?_) rfl ?_ ?_ ?_; rotate_left 1; rfl; focus (rintro wS ⟨s0,s1,s2,s3,s4,s5,s6,s7,s8,s9,sf⟩; go_simp <;> with_reducible rfl)) | (refine zAD rfl ?_ ?_; rfl)); try simp only [Act.put,qset])
 refine zAI ?_
 replace HS:=zI2 HS.out.drew
 obtain ⟨s0,s1,s2,s3,s4,s5,s6,s7,s8,s9,sf⟩:=id HS.out.tk
 clear sf
 go_wp2_with fail
 refine (zDD _ b k _ _ HS.out.tk (by omega)).mono ?_
 rintro r w1 ⟨rfl,hT1,hK1⟩
 replace HS:=zI2 (HS.out.own hT1 hK1)
 clear hT1 hK1 s0 s1 s2 s3 s4 s5 s6 s7 s8 s9
 go_wp2_with fail
 refine zAF ((fun w'=>IsTk w' b { k with ph:=1,lo:=k.seen + 1,hi:=k.seen + 1 })) ((0,true) :: (1,true) :: (2,true) :: (3,true) :: (4,true) :: (5,true) :: (6,true) :: (7,true) :: (8,true) :: (9,true) :: (10,true) :: (11,true) :: (12,true) :: (14,true) :: (15,true) :: (13,false) :: (16,false) :: []) (by kernel_rfl) (by kernel_rfl) (by kernel_rfl) (by decide) (fun _ _ _ _ _ h=>h) (HS.out.drew.tk) ?_
 repeat ((first | (refine zAC (v := ?_) rfl ?_ ?_ ?_; rotate_left 1; rfl; focus (rintro wS ⟨s0,s1,s2,s3,s4,s5,s6,s7,s8,s9,sf⟩; go_simp <;> with_reducible rfl)) | (refine zAD rfl ?_ ?_; rfl)); try simp only [Act.put,qset])
 refine zAG rfl (fun K hK=>?_)
 go_simp
 go_at_call 111
 refine (HN.out _).mono ?_
 rintro r w1 ⟨rfl,hb1⟩
 (try go_wp2_with fail)
 replace HS:=zI2 (HS.out.drew.later hb1)
 clear hb1
 refine hK.out _ _ (HS.out.tk) (fun _=>?_)
 (try simp only [Act.put,qset])
 clear hK K
 repeat ((first | (refine zAC (v := ?_) rfl ?_ ?_ ?_; rotate_left 1; rfl; focus (rintro wS ⟨s0,s1,s2,s3,s4,s5,s6,s7,s8,s9,sf⟩; go_simp <;> with_reducible rfl)) | (refine zAD rfl ?_ ?_; rfl)); try simp only [Act.put,qset])
 refine zAG rfl (fun K hK=>?_)
 go_simp
 go_at_call 123
 rw [EW.out]
 refine (zBS base _ p c _ _ _ k.who (nb + j) x _ HS.out.mem HX.out HS.out.size hL (by omega) (by omega)).mono ?_
 rintro r w2 ⟨rfl,v2,hT2⟩
 (try go_wp2_with fail)
 replace HS:=zI2 (HS.out.cells hT2)
 clear hT2
 refine hK.out _ _ (HS.out.tk) (fun _=>?_)
 (try simp only [Act.put,qset])
 clear hK K
 refine zAI ?_
 go_wp2
 go_end0
 exact ⟨rfl,_,HS.out⟩
theorem swap_0 (x : Int) (hs : k.steps = 0) (hT : IsTk w b k) (hM : IsMem base w p c v C L) (ha : ¬ Foot p c v b) (hl : Lay k.t k.s n) (hnb : (nb : Int) = 2 * n + k.t) (hx : C[nb]? = some x) (hb : base ≤ w.heap.size) (hL : L.length < 1000000000) (hp : k.ph = 0) :
  Calls Tryz.prog 150 #[pt b,pt p] w (TickPost base w b p c v { k with seen:=low x,ph:=if low x = 16777215 then 2 else 0 } C (L ++ [⟨k.who,0,nb,x,x,true⟩]) (.returned (.tuple #[]))):=by
 have HS:=zI2 (Stepped.refl hT hM ha hb)
 have HX:=zI2 hx
 have Hnb:=zI2 hnb
 have q0 : (k.steps == 0) = true:=by simp [hs]
 have q3 : (k.steps == 1) = false:=by simp [hs]
 have q2 : (k.steps == 2) = false:=by simp [hs]
 have Hp:=zI2 hp
 clear hM ha hx hnb hs hp
 obtain ⟨s0,s1,s2,s3,s4,s5,s6,s7,s8,s9,sf⟩:=id hT
 clear sf hT
 have hf2 : ((low x == 16777215) = true ∧ low x = 16777215) ∨ ((low x == 16777215) = false ∧ ¬ low x = 16777215):=by
  by_cases h : low x = 16777215
  ·exact .inl ⟨by simp [h],h⟩
  ·exact .inr ⟨by simp [h],h⟩
 rcases hf2 with ⟨qf,hfull⟩ | ⟨qf,hfull⟩
 all_goals
  have Hf:=zI2 hfull
  clear hfull
  go_enter Tryz.func150,Tryz.ntmps150
  go_wp2_with fail
  refine (zDe base _ b p c _ C L k nb n x HS.out.tk HS.out.mem HS.out.apart hl Hnb.out HX.out HS.out.size hL).mono ?_
  rintro r w1 ⟨rfl,v1,hS1⟩
  replace HS:=zI2 (HS.out.trans hS1)
  clear hS1
  obtain ⟨t0,t1,t2,t3,t4,t5,t6,t7,t8,t9,tf⟩:=id HS.out.tk
  have g6:=tf 6
  have g7:=tf 7
  clear tf
  go_wp2
  go_end0
  first
  | (exact ⟨rfl,_,HS.out.own (setTk (setTk HS.out.tk (k' := { k with seen:=16777215 }) 6 (.int .i64 16777215) rfl) (k' := { k with seen:=16777215,ph:=2 }) 7 (.int .i64 2) rfl) (((Keep.refl _ _).own 6 _).own 7 _)⟩)
  | (exact ⟨rfl,_,HS.out.own (setTk HS.out.tk (k' := { k with seen:=low x,ph:=0 }) 6 (.int .i64 (low x)) (by rw [← Hp.out]; rfl)) ((Keep.refl _ _).own 6 _)⟩)
theorem swap_1 (x : Int) (hs : k.steps = 1) (hT : IsTk w b k) (hM : IsMem base w p c v C L) (ha : ¬ Foot p c v b) (hl : Lay k.t k.s n) (hnb : (nb : Int) = 2 * n + k.t) (hx : C[nb]? = some x) (hb : base ≤ w.heap.size) (hL : L.length < 1000000000) :
  Calls Tryz.prog 150 #[pt b,pt p] w (TickPost base w b p c v (if low x = k.seen then k else fin k k.seen (low x - 1)) C (L ++ [⟨k.who,0,nb,x,x,true⟩]) (.returned (.tuple #[]))):=by
 have HS:=zI2 (Stepped.refl hT hM ha hb)
 have HX:=zI2 hx
 have Hnb:=zI2 hnb
 have q0 : (k.steps == 0) = false:=by simp [hs]
 have q1 : (k.steps == 1) = true:=by simp [hs]
 have hx0:=zDp x (hM.numAt hx).1
 have hx1:=hx0.2
 replace hx0:=hx0.1
 clear hM ha hx hnb hs
 obtain ⟨s0,s1,s2,s3,s4,s5,s6,s7,s8,s9,sf⟩:=id hT
 clear sf hT
 by_cases hfull : low x = k.seen
 ·have Hf:=zI2 hfull
  have qf : (low x != k.seen) = false:=by simp [hfull]
  rw [if_pos hfull]
  clear hfull
  go_enter Tryz.func150,Tryz.ntmps150
  go_wp2_with fail
  refine (zDe base _ b p c _ C L k nb n x HS.out.tk HS.out.mem HS.out.apart hl Hnb.out HX.out HS.out.size hL).mono ?_
  rintro r w1 ⟨rfl,v1,hS1⟩
  replace HS:=zI2 (HS.out.trans hS1)
  clear hS1
  obtain ⟨t0,t1,t2,t3,t4,t5,t6,t7,t8,t9,tf⟩:=id HS.out.tk
  clear tf
  go_wp2
  go_end0
  exact ⟨rfl,_,HS.out⟩
 ·have Hf:=zI2 hfull
  have qf : (low x != k.seen) = true:=by simp [hfull]
  rw [if_neg hfull]
  clear hfull
  go_enter Tryz.func150,Tryz.ntmps150
  go_wp2_with fail
  refine (zDe base _ b p c _ C L k nb n x HS.out.tk HS.out.mem HS.out.apart hl Hnb.out HX.out HS.out.size hL).mono ?_
  rintro r w1 ⟨rfl,v1,hS1⟩
  replace HS:=zI2 (HS.out.trans hS1)
  clear hS1
  obtain ⟨t0,t1,t2,t3,t4,t5,t6,t7,t8,t9,tf⟩:=id HS.out.tk
  clear tf
  go_wp2_with fail
  refine (zAe _ b k _ _ HS.out.tk).mono ?_
  rintro r w4 ⟨⟨g,rfl⟩,hT4,hK4⟩
  go_wp2
  go_end0
  exact ⟨rfl,_,HS.out.own hT4 hK4⟩
end
end
section
theorem zEq (k : Tk) (x y : Int) : (fin k x y).seen = k.seen:=by unfold fin; split <;> rfl
section
variable (base : Nat) (w : World) (b p c : Nat) (v : Value) (C : List Int) (L : List Ev) (k : Tk) (nb : Nat) (n : Int)
theorem swap_3 (x : Int) (hs : 3 ≤ k.steps) (hT : IsTk w b k) (hM : IsMem base w p c v C L) (ha : ¬ Foot p c v b) (hl : Lay k.t k.s n) (hnb : (nb : Int) = 2 * n + k.t) (hx : C[nb]? = some x) (hb : base ≤ w.heap.size) (hL : L.length < 1000000000) :
  Calls Tryz.prog 150 #[pt b,pt p] w (TickPost base w b p c v (fin k k.seen (low x - 1)) C (L ++ [⟨k.who,0,nb,x,x,true⟩]) (.returned (.tuple #[]))):=by
 have HS:=zI2 (Stepped.refl hT hM ha hb)
 have HX:=zI2 hx
 have Hnb:=zI2 hnb
 have q0 : (k.steps == 0) = false:=by simp; omega
 have q1 : (k.steps == 1) = false:=by simp; omega
 have q2 : (k.steps == 2) = false:=by simp; omega
 have hx0:=zDp x (hM.numAt hx).1
 have hx1:=hx0.2
 replace hx0:=hx0.1
 have EW : Hid (IntKind.i64.wrap (low x - 1) = low x - 1):=by show _ = _; rw [IntWalk.i64_in _ (by omega)]
 clear hM ha hx hnb hs
 obtain ⟨s0,s1,s2,s3,s4,s5,s6,s7,s8,s9,sf⟩:=id hT
 clear sf
 go_enter Tryz.func150,Tryz.ntmps150
 go_wp2_with fail
 refine zAF ((fun w'=>w'.cell? ⟨b,6,none⟩ = some (i64 k.seen))) ((0,true) :: (1,true) :: (2,true) :: (3,true) :: (4,true) :: (5,true) :: (6,true) :: (7,false) :: (8,true) :: (9,false) :: []) (by kernel_rfl) (by kernel_rfl) (by kernel_rfl) (by decide) (fun _ _ _ _ _ h=>h) (hT.drew.c6) ?_
 clear hT s0 s1 s2 s3 s4 s5 s6 s7 s8 s9
 replace HS:=zI2 HS.out.drew
 repeat (first | (refine zAC (v := ?_) rfl ?_ ?_ ?_; rotate_left 1; rfl; (focus (intro wS hSw; skip; go_simp; first | done | with_reducible rfl)); (try simp only [Act.put,qset])) | (refine zAD rfl ?_ ?_; rfl; (try simp only [Act.put,qset])))
 refine zAG rfl (fun K hK=>?_)
 go_simp
 go_at_call 169
 refine (zDe base _ b p c _ C L k nb n x HS.out.tk HS.out.mem HS.out.apart hl Hnb.out HX.out HS.out.size hL).mono ?_
 rintro r w1 ⟨rfl,v1,hS1⟩
 (try go_wp2_with fail)
 replace HS:=zI2 (HS.out.trans hS1)
 clear hS1
 refine hK.out _ _ (HS.out.tk.c6) (fun _=>?_)
 (try simp only [Act.put,qset])
 clear hK K
 repeat (first | (refine zAC (v := ?_) rfl ?_ ?_ ?_; rotate_left 1; rfl; (focus (intro wS hSw; skip; go_simp; first | done | with_reducible rfl)); (try simp only [Act.put,qset])) | (refine zAD rfl ?_ ?_; rfl; (try simp only [Act.put,qset])))
 rw [EW.out]
 refine zAG rfl (fun K hK=>?_)
 go_simp
 go_at_call 168
 refine (zAe _ b k _ _ HS.out.tk).mono ?_
 rintro r w4 ⟨⟨g,rfl⟩,hT4,hK4⟩
 (try go_wp2_with fail)
 replace HS:=zI2 (HS.out.own hT4 hK4)
 clear hT4 hK4
 refine hK.out _ _ (HS.out.tk.c6.trans (by rw [zEq])) (fun _=>?_)
 (try simp only [Act.put,qset])
 clear hK K
 refine zAI ?_
 go_wp2
 go_end0
 exact ⟨rfl,_,HS.out⟩
theorem zIl (x : Int) (hs : k.steps = 2) (hxs : x = k.seen) (e1 : k.seen < 16777215) (hT : IsTk w b k) (hM : IsMem base w p c v C L) (ha : ¬ Foot p c v b) (hl : Lay k.t k.s n) (hnb : (nb : Int) = 2 * n + k.t) (hx : C[nb]? = some x) (hb : base ≤ w.heap.size) (hL : L.length < 1000000000) :
  Calls Tryz.prog 150 #[pt b,pt p] w (TickPost base w b p c v (fin k k.seen k.seen) (C.set nb (k.seen + 1)) (L ++ [⟨k.who,2,nb,x,k.seen + 1,true⟩]) (.returned (.tuple #[]))):=by
 have HS:=zI2 (Stepped.refl hT hM ha hb)
 have HX:=zI2 hx
 have Hnb:=zI2 hnb
 have q0 : (k.steps == 0) = false:=by simp [hs]
 have q1 : (k.steps == 1) = false:=by simp [hs]
 have q2 : (k.steps == 2) = true:=by simp [hs]
 have e0:=(hM.numAt hx).1
 have EA : Hid (IntKind.u64.wrap k.seen = x):=by show _ = _; rw [IntKind.wrap_u64,hxs]; omega
 have EW : Hid (IntKind.u64.wrap (x + 1) = k.seen + 1):=by show _ = _; rw [IntKind.wrap_u64,hxs]; omega
 have b0 : 0 ≤ k.seen + 1:=by omega
 clear hM ha hx hnb hs hxs
 obtain ⟨s0,s1,s2,s3,s4,s5,s6,s7,s8,s9,sf⟩:=id hT
 clear sf
 go_enter Tryz.func150,Tryz.ntmps150
 go_wp2_with fail
 try rw [EA.out]
 refine zAF ((fun w'=>IsTk w' b k)) ((0,true) :: (1,true) :: (2,true) :: (3,true) :: (4,true) :: (5,true) :: (6,true) :: (7,true) :: (8,true) :: (10,true) :: (11,true) :: (12,true) :: (9,false) :: (13,false) :: []) (by kernel_rfl) (by kernel_rfl) (by kernel_rfl) (by decide) (fun _ _ _ _ _ h=>h) (hT.drew) ?_
 clear hT s0 s1 s2 s3 s4 s5 s6 s7 s8 s9
 replace HS:=zI2 HS.out.drew
 repeat ((first | (refine zAC (v := ?_) rfl ?_ ?_ ?_; rotate_left 1; rfl; focus (rintro wS ⟨s0,s1,s2,s3,s4,s5,s6,s7,s8,s9,sf⟩; go_simp <;> with_reducible rfl)) | (refine zAD rfl ?_ ?_; rfl)); try simp only [Act.put,qset])
 refine zAG rfl (fun K hK=>?_)
 go_simp
 go_at_call 111
 refine (zGF _ _ _ _ n nb _ hl Hnb.out).mono ?_
 rintro r w1 ⟨rfl,hb1⟩
 (try go_wp2_with fail)
 replace HS:=zI2 (HS.out.later hb1)
 clear hb1
 refine hK.out _ _ (HS.out.tk) (fun _=>?_)
 (try simp only [Act.put,qset])
 clear hK K
 repeat ((first | (refine zAC (v := ?_) rfl ?_ ?_ ?_; rotate_left 1; rfl; focus (rintro wS ⟨s0,s1,s2,s3,s4,s5,s6,s7,s8,s9,sf⟩; go_simp <;> with_reducible rfl)) | (refine zAD rfl ?_ ?_; rfl)); try simp only [Act.put,qset])
 refine zAG rfl (fun K hK=>?_)
 go_simp
 try rw [EA.out]
 try rw [EW.out]
 go_at_call 170
 refine (zEp base _ p c _ _ _ k.who nb x (k.seen + 1) HS.out.mem HX.out HS.out.size hL (by omega) (by omega)).mono ?_
 rintro r w2 ⟨rfl,v2,hT2⟩
 (try go_wp2_with fail)
 replace HS:=zI2 (HS.out.cells hT2)
 clear hT2
 refine hK.out _ _ (HS.out.tk) (fun _=>?_)
 (try simp only [Act.put,qset])
 clear hK K
 repeat ((first | (refine zAC (v := ?_) rfl ?_ ?_ ?_; rotate_left 1; rfl; focus (rintro wS ⟨s0,s1,s2,s3,s4,s5,s6,s7,s8,s9,sf⟩; go_simp <;> with_reducible rfl)) | (refine zAD rfl ?_ ?_; rfl)); try simp only [Act.put,qset])
 refine zAI ?_
 go_wp2_with fail
 refine zAF ((fun w'=>w'.cell? ⟨b,6,none⟩ = some (i64 k.seen))) ((0,true) :: (1,true) :: (2,true) :: (3,true) :: (4,true) :: (5,true) :: (6,true) :: (7,true) :: (8,true) :: (9,false) :: []) (by kernel_rfl) (by kernel_rfl) (by kernel_rfl) (by decide) (fun _ _ _ _ _ h=>h) (HS.out.tk.drew.c6) ?_
 replace HS:=zI2 HS.out.drew
 repeat (first | (refine zAC (v := ?_) rfl ?_ ?_ ?_; rotate_left 1; rfl; (focus (intro wS hSw; skip; go_simp; first | done | with_reducible rfl)); (try simp only [Act.put,qset])) | (refine zAD rfl ?_ ?_; rfl; (try simp only [Act.put,qset])))
 refine zAG rfl (fun K hK=>?_)
 go_simp
 go_at_call 168
 refine (zAe _ b k _ _ HS.out.tk).mono ?_
 rintro r w4 ⟨⟨g,rfl⟩,hT4,hK4⟩
 (try go_wp2_with fail)
 replace HS:=zI2 (HS.out.own hT4 hK4)
 clear hT4 hK4
 refine hK.out _ _ (HS.out.tk.c6.trans (by rw [zEq])) (fun _=>?_)
 (try simp only [Act.put,qset])
 clear hK K
 refine zAI ?_
 go_wp2
 go_end0
 exact ⟨rfl,_,HS.out⟩
theorem zIo (x : Int) (hs : k.steps = 2) (hxs : x ≠ k.seen) (e0 : 0 ≤ k.seen) (e1 : k.seen < 16777215) (hT : IsTk w b k) (hM : IsMem base w p c v C L) (ha : ¬ Foot p c v b) (hl : Lay k.t k.s n) (hnb : (nb : Int) = 2 * n + k.t) (hx : C[nb]? = some x) (hb : base ≤ w.heap.size) (hL : L.length < 1000000000) :
  Calls Tryz.prog 150 #[pt b,pt p] w (TickPost base w b p c v k C (L ++ [⟨k.who,2,nb,x,x,false⟩]) (.returned (.tuple #[]))):=by
 have HS:=zI2 (Stepped.refl hT hM ha hb)
 have HX:=zI2 hx
 have Hnb:=zI2 hnb
 have q0 : (k.steps == 0) = false:=by simp [hs]
 have q1 : (k.steps == 1) = false:=by simp [hs]
 have q2 : (k.steps == 2) = true:=by simp [hs]
 have EA : Hid (IntKind.u64.wrap k.seen = k.seen):=by show _ = _; rw [IntKind.wrap_u64]; omega
 have HN:=zI2 hxs
 clear hM ha hx hnb hs hxs
 obtain ⟨s0,s1,s2,s3,s4,s5,s6,s7,s8,s9,sf⟩:=id hT
 clear sf
 go_enter Tryz.func150,Tryz.ntmps150
 go_wp2_with fail
 try rw [EA.out]
 refine zAF ((fun w'=>IsTk w' b k)) ((0,true) :: (1,true) :: (2,true) :: (3,true) :: (4,true) :: (5,true) :: (6,true) :: (7,true) :: (8,true) :: (10,true) :: (11,true) :: (12,true) :: (9,false) :: (13,false) :: []) (by kernel_rfl) (by kernel_rfl) (by kernel_rfl) (by decide) (fun _ _ _ _ _ h=>h) (hT.drew) ?_
 clear hT s0 s1 s2 s3 s4 s5 s6 s7 s8 s9
 replace HS:=zI2 HS.out.drew
 repeat ((first | (refine zAC (v := ?_) rfl ?_ ?_ ?_; rotate_left 1; rfl; focus (rintro wS ⟨s0,s1,s2,s3,s4,s5,s6,s7,s8,s9,sf⟩; go_simp <;> with_reducible rfl)) | (refine zAD rfl ?_ ?_; rfl)); try simp only [Act.put,qset])
 refine zAG rfl (fun K hK=>?_)
 go_simp
 go_at_call 111
 refine (zGF _ _ _ _ n nb _ hl Hnb.out).mono ?_
 rintro r w1 ⟨rfl,hb1⟩
 (try go_wp2_with fail)
 replace HS:=zI2 (HS.out.later hb1)
 clear hb1
 refine hK.out _ _ (HS.out.tk) (fun _=>?_)
 (try simp only [Act.put,qset])
 clear hK K
 repeat ((first | (refine zAC (v := ?_) rfl ?_ ?_ ?_; rotate_left 1; rfl; focus (rintro wS ⟨s0,s1,s2,s3,s4,s5,s6,s7,s8,s9,sf⟩; go_simp <;> with_reducible rfl)) | (refine zAD rfl ?_ ?_; rfl)); try simp only [Act.put,qset])
 refine zAG rfl (fun K hK=>?_)
 go_simp
 try rw [EA.out]
 go_at_call 170
 refine (zGu base _ p c _ _ _ k.who nb x k.seen _ HS.out.mem HX.out HS.out.size hL HN.out).mono ?_
 rintro r w2 ⟨rfl,v2,hT2⟩
 (try go_wp2_with fail)
 replace HS:=zI2 (HS.out.cells hT2)
 clear hT2
 refine hK.out _ _ (HS.out.tk) (fun _=>?_)
 (try simp only [Act.put,qset])
 clear hK K
 repeat ((first | (refine zAC (v := ?_) rfl ?_ ?_ ?_; rotate_left 1; rfl; focus (rintro wS ⟨s0,s1,s2,s3,s4,s5,s6,s7,s8,s9,sf⟩; go_simp <;> with_reducible rfl)) | (refine zAD rfl ?_ ?_; rfl)); try simp only [Act.put,qset])
 refine zAI ?_
 go_wp2
 go_end0
 exact ⟨rfl,_,HS.out⟩
theorem zIT (u : Int) (hso : k.so = 4) (hst : k.steps ≤ k.d) (hT : IsTk w b k) :
  Calls Tryz.prog 151 #[pt b,i64 u] w fun r w'=>r = .returned (.tuple #[]) ∧ IsTk w' b { k with seen:=if k.steps = 0 then u else k.seen } ∧ Keep (· = b) w w':=by
 have q4 : (k.so == 4) = true:=by simp [hso]
 have q3 : (k.so == 3) = false:=by simp [hso]
 clear hso
 obtain ⟨s0,s1,s2,s3,s4,s5,s6,s7,s8,s9,sf⟩:=id hT
 have f6:=sf 6
 clear sf
 have HT:=zI2 hT
 clear hT
 have h2 : ((k.steps == 0) = true ∧ k.steps = 0) ∨ ((k.steps == 0) = false ∧ ¬ k.steps = 0):=by
  by_cases h : k.steps = 0
  ·exact .inl ⟨by simp [h],h⟩
  ·exact .inr ⟨by simp [h],h⟩
 rcases h2 with ⟨q0,h0⟩ | ⟨q0,h0⟩
 ·rw [if_pos h0]
  clear h0
  go_enter Tryz.func151,Tryz.ntmps151
  go_wp2_with fail
  have hT1:=setTk HT.out (k' := { k with seen:=u }) 6 (.int .i64 u) rfl
  have HT1:=zI2 hT1
  have HK1 : Hid (Keep (· = b) w (w.setCell ⟨b,6,none⟩ (.int .i64 u))):=(Keep.refl _ _).own 6 _
  clear s0 s1 s2 s3 s4 s5 s6 s7 s8 s9 f6
  obtain ⟨s0,s1,s2,s3,s4,s5,s6,s7,s8,s9,sf⟩:=id hT1
  clear sf hT1
  refine zAF ((fun w'=>IsTk w' b { k with seen:=u })) ((0,true) :: (1,true) :: (2,true) :: (3,true) :: (4,true) :: (5,true) :: (6,true) :: (7,true) :: (8,true) :: (9,true) :: []) (by kernel_rfl) (by kernel_rfl) (by kernel_rfl) (by decide) (fun _ _ _ _ _ h=>h) (HT1.out.drew) ?_
  repeat ((first | (refine zAC (v := ?_) rfl ?_ ?_ ?_; rotate_left 1; rfl; focus (rintro wS ⟨s0,s1,s2,s3,s4,s5,s6,s7,s8,s9,sf⟩; go_simp <;> with_reducible rfl)) | (refine zAD rfl ?_ ?_; rfl)); try simp only [Act.put,qset])
  refine zAI ?_
  go_wp2
  go_end0
  exact ⟨rfl,HT1.out.drew,HK1.out.drew⟩
 ·rw [if_neg h0]
  clear h0
  go_enter Tryz.func151,Tryz.ntmps151
  go_wp2_with fail
  refine zAF ((fun w'=>IsTk w' b k)) ((0,true) :: (1,true) :: (2,true) :: (3,true) :: (4,true) :: (5,true) :: (6,true) :: (7,true) :: (8,true) :: (9,true) :: []) (by kernel_rfl) (by kernel_rfl) (by kernel_rfl) (by decide) (fun _ _ _ _ _ h=>h) (HT.out.drew) ?_
  repeat ((first | (refine zAC (v := ?_) rfl ?_ ?_ ?_; rotate_left 1; rfl; focus (rintro wS ⟨s0,s1,s2,s3,s4,s5,s6,s7,s8,s9,sf⟩; go_simp <;> with_reducible rfl)) | (refine zAD rfl ?_ ?_; rfl)); try simp only [Act.put,qset])
  refine zAI ?_
  go_wp2
  go_end0
  exact ⟨rfl,HT.out.drew,(Keep.refl _ _).drew⟩
theorem zHY (u : Int) (hso : k.so = 3 ∨ (k.so = 4 ∧ k.d < k.steps)) (hT : IsTk w b k) :
  Calls Tryz.prog 151 #[pt b,i64 u] w fun r w'=>r = .returned (.tuple #[]) ∧ IsTk w' b (fin { k with seen:=if k.steps = 0 then u else k.seen } (if k.steps = 0 then u else k.seen) u) ∧ Keep (· = b) w w':=by
 obtain ⟨s0,s1,s2,s3,s4,s5,s6,s7,s8,s9,sf⟩:=id hT
 have f6:=sf 6
 clear sf
 have HT:=zI2 hT
 clear hT
 have h2 : ((k.steps == 0) = true ∧ k.steps = 0) ∨ ((k.steps == 0) = false ∧ ¬ k.steps = 0):=by
  by_cases h : k.steps = 0
  ·exact .inl ⟨by simp [h],h⟩
  ·exact .inr ⟨by simp [h],h⟩
 have h3 : ((k.so == 4) = false ∧ (k.so == 3) = true ∧ k.so = 3) ∨ ((k.so == 4) = true ∧ (k.so == 3) = false ∧ ¬ (k.steps ≤ k.d)):=by
  rcases hso with h | ⟨h,h'⟩
  ·exact .inl ⟨by simp [h],by simp [h],h⟩
  ·exact .inr ⟨by simp [h],by simp [h],by omega⟩
 clear hso
 rcases h3 with ⟨q4,q3,h4⟩ | ⟨q4,q3,hst⟩
 ·clear h4
  rcases h2 with ⟨q0,h0⟩ | ⟨q0,h0⟩
  ·rw [if_pos h0]
   clear h0
   go_enter Tryz.func151,Tryz.ntmps151
   go_wp2_with fail
   have HT1:=zI2 (setTk HT.out (k' := { k with seen:=u }) 6 (.int .i64 u) rfl)
   have HK1 : Hid (Keep (· = b) w (w.setCell ⟨b,6,none⟩ (.int .i64 u))):=(Keep.refl _ _).own 6 _
   refine (zAe _ b _ _ _ HT1.out).mono ?_
   rintro r w4 ⟨⟨g,rfl⟩,hT4,hK4⟩
   go_wp2
   go_end0
   exact ⟨rfl,hT4,HK1.out.trans hK4⟩
  ·rw [if_neg h0]
   clear h0
   go_enter Tryz.func151,Tryz.ntmps151
   go_wp2_with fail
   refine (zAe _ b _ _ _ HT.out).mono ?_
   rintro r w4 ⟨⟨g,rfl⟩,hT4,hK4⟩
   go_wp2
   go_end0
   exact ⟨rfl,hT4,hK4⟩
 ·rcases h2 with ⟨q0,h0⟩ | ⟨q0,h0⟩
  ·rw [if_pos h0]
   clear h0
   go_enter Tryz.func151,Tryz.ntmps151
   go_wp2_with fail
   have hT1:=setTk HT.out (k' := { k with seen:=u }) 6 (.int .i64 u) rfl
   have HT1:=zI2 hT1
   have HK1 : Hid (Keep (· = b) w (w.setCell ⟨b,6,none⟩ (.int .i64 u))):=(Keep.refl _ _).own 6 _
   clear s0 s1 s2 s3 s4 s5 s6 s7 s8 s9 f6
   obtain ⟨s0,s1,s2,s3,s4,s5,s6,s7,s8,s9,sf⟩:=id hT1
   clear sf hT1
   refine zAF ((fun w'=>IsTk w' b { k with seen:=u })) ((0,true) :: (1,true) :: (2,true) :: (3,true) :: (4,true) :: (5,true) :: (6,true) :: (7,true) :: (8,true) :: (9,true) :: []) (by kernel_rfl) (by kernel_rfl) (by kernel_rfl) (by decide) (fun _ _ _ _ _ h=>h) (HT1.out.drew) ?_
   clear s0 s1 s2 s3 s4 s5 s6 s7 s8 s9
   repeat ((first | (refine zAC (v := ?_) rfl ?_ ?_ ?_; rotate_left 1; rfl; focus (rintro wS ⟨s0,s1,s2,s3,s4,s5,s6,s7,s8,s9,sf⟩; go_simp <;> with_reducible rfl)) | (refine zAD rfl ?_ ?_; rfl)); try simp only [Act.put,qset])
   refine zAI ?_
   obtain ⟨s0,s1,s2,s3,s4,s5,s6,s7,s8,s9,sf⟩:=id HT1.out.drew
   clear sf
   go_wp2_with fail
   refine (zAe _ b _ _ _ HT1.out.drew).mono ?_
   rintro r w4 ⟨⟨g,rfl⟩,hT4,hK4⟩
   go_wp2
   go_end0
   exact ⟨rfl,hT4,HK1.out.drew.trans hK4⟩
  ·rw [if_neg h0]
   clear h0
   go_enter Tryz.func151,Tryz.ntmps151
   go_wp2_with fail
   refine zAF ((fun w'=>IsTk w' b k)) ((0,true) :: (1,true) :: (2,true) :: (3,true) :: (4,true) :: (5,true) :: (6,true) :: (7,true) :: (8,true) :: (9,true) :: []) (by kernel_rfl) (by kernel_rfl) (by kernel_rfl) (by decide) (fun _ _ _ _ _ h=>h) (HT.out.drew) ?_
   clear s0 s1 s2 s3 s4 s5 s6 s7 s8 s9
   repeat ((first | (refine zAC (v := ?_) rfl ?_ ?_ ?_; rotate_left 1; rfl; focus (rintro wS ⟨s0,s1,s2,s3,s4,s5,s6,s7,s8,s9,sf⟩; go_simp <;> with_reducible rfl)) | (refine zAD rfl ?_ ?_; rfl)); try simp only [Act.put,qset])
   refine zAI ?_
   obtain ⟨s0,s1,s2,s3,s4,s5,s6,s7,s8,s9,sf⟩:=id HT.out.drew
   clear sf
   go_wp2_with fail
   refine (zAe _ b _ _ _ HT.out.drew).mono ?_
   rintro r w4 ⟨⟨g,rfl⟩,hT4,hK4⟩
   go_wp2
   go_end0
   exact ⟨rfl,hT4,(Keep.refl _ _).drew.trans hK4⟩
end
end
section
theorem zBH (k : Tk) (x y : Int) : (fin k x y).steps = k.steps:=by unfold fin; split <;> rfl
section
variable (base : Nat) (w : World) (b p c : Nat) (v : Value) (C : List Int) (L : List Ev) (k : Tk) (nb : Nat) (n : Int)
theorem zIg (now : Int) (k1 : Tk) (C1 : List Int) (L1 : List Ev) (hk : k1.steps = k.steps) (hs0 : 0 ≤ k.steps) (hs1 : k.steps ≤ 1000000) (hp : k.ph = 0) (hso : k.so = 0) (hT : IsTk w b k)
  (hin : Calls Tryz.prog 148 #[pt b,pt p] w (TickPost base w b p c v k1 C1 L1 (.returned (.tuple #[])))) :
  Calls Tryz.prog 122 #[pt b,pt p,i64 now] w (TickPost base w b p c v { k1 with steps:=k.steps + 1 } C1 L1 (.returned (i64 k1.ph))):=by
 have qp : (k.ph != 0) = false:=by simp [hp]
 have q0 : (k.so == 0) = true:=by simp [hso]
 have q1 : (k.so == 1) = false:=by simp [hso]
 have q2 : (k.so == 2) = false:=by simp [hso]
 have q3 : (k.so == 3) = false:=by simp [hso]
 have q4 : (k.so == 4) = false:=by simp [hso]
 have HIN:=zI2 hin
 have Hk:=zI2 hk
 clear hin hk hso hp
 obtain ⟨s0,s1,s2,s3,s4,s5,s6,s7,s8,s9,sf⟩:=id hT
 clear sf hT
 go_enter Tryz.func122,Tryz.ntmps122
 go_wp2_with fail
 refine HIN.out.mono ?_
 rintro r w1 ⟨rfl,v1,hS⟩
 have HS:=zI2 hS
 obtain ⟨t0,t1,t2,t3,t4,t5,t6,t7,t8,t9,tf⟩:=id hS.tk
 rw [Hk.out] at t5
 have f5:=tf 5
 clear tf hS s0 s1 s2 s3 s4 s5 s6 s7 s8 s9
 go_wp2
 go_ret
 exact ⟨rfl,_,HS.out.own (setTk HS.out.tk (k' := { k1 with steps:=k.steps + 1 }) 5 (.int .i64 (k.steps + 1)) rfl) ((Keep.refl _ _).own 5 _)⟩
theorem zEO (now : Int) (k1 : Tk) (C1 : List Int) (L1 : List Ev) (hk : k1.steps = k.steps) (hs0 : 0 ≤ k.steps) (hs1 : k.steps ≤ 1000000) (hp : k.ph = 0) (hso : k.so = 1) (hT : IsTk w b k)
  (hin : Calls Tryz.prog 149 #[pt b,pt p] w (TickPost base w b p c v k1 C1 L1 (.returned (.tuple #[])))) :
  Calls Tryz.prog 122 #[pt b,pt p,i64 now] w (TickPost base w b p c v { k1 with steps:=k.steps + 1 } C1 L1 (.returned (i64 k1.ph))):=by
 have qp : (k.ph != 0) = false:=by simp [hp]
 have q0 : (k.so == 0) = false:=by simp [hso]
 have q1 : (k.so == 1) = true:=by simp [hso]
 have q2 : (k.so == 2) = false:=by simp [hso]
 have q3 : (k.so == 3) = false:=by simp [hso]
 have q4 : (k.so == 4) = false:=by simp [hso]
 have HIN:=zI2 hin
 have Hk:=zI2 hk
 clear hin hk hso hp
 obtain ⟨s0,s1,s2,s3,s4,s5,s6,s7,s8,s9,sf⟩:=id hT
 clear sf hT
 go_enter Tryz.func122,Tryz.ntmps122
 go_wp2_with fail
 refine HIN.out.mono ?_
 rintro r w1 ⟨rfl,v1,hS⟩
 have HS:=zI2 hS
 obtain ⟨t0,t1,t2,t3,t4,t5,t6,t7,t8,t9,tf⟩:=id hS.tk
 rw [Hk.out] at t5
 have f5:=tf 5
 clear tf hS s0 s1 s2 s3 s4 s5 s6 s7 s8 s9
 go_wp2
 go_ret
 exact ⟨rfl,_,HS.out.own (setTk HS.out.tk (k' := { k1 with steps:=k.steps + 1 }) 5 (.int .i64 (k.steps + 1)) rfl) ((Keep.refl _ _).own 5 _)⟩
theorem zCU (now : Int) (k1 : Tk) (C1 : List Int) (L1 : List Ev) (hk : k1.steps = k.steps) (hs0 : 0 ≤ k.steps) (hs1 : k.steps ≤ 1000000) (hp : k.ph = 0) (hso : k.so = 2) (hT : IsTk w b k)
  (hin : Calls Tryz.prog 150 #[pt b,pt p] w (TickPost base w b p c v k1 C1 L1 (.returned (.tuple #[])))) :
  Calls Tryz.prog 122 #[pt b,pt p,i64 now] w (TickPost base w b p c v { k1 with steps:=k.steps + 1 } C1 L1 (.returned (i64 k1.ph))):=by
 have qp : (k.ph != 0) = false:=by simp [hp]
 have q0 : (k.so == 0) = false:=by simp [hso]
 have q1 : (k.so == 1) = false:=by simp [hso]
 have q2 : (k.so == 2) = true:=by simp [hso]
 have q3 : (k.so == 3) = false:=by simp [hso]
 have q4 : (k.so == 4) = false:=by simp [hso]
 have HIN:=zI2 hin
 have Hk:=zI2 hk
 clear hin hk hso hp
 obtain ⟨s0,s1,s2,s3,s4,s5,s6,s7,s8,s9,sf⟩:=id hT
 clear sf hT
 go_enter Tryz.func122,Tryz.ntmps122
 go_wp2_with fail
 refine HIN.out.mono ?_
 rintro r w1 ⟨rfl,v1,hS⟩
 have HS:=zI2 hS
 obtain ⟨t0,t1,t2,t3,t4,t5,t6,t7,t8,t9,tf⟩:=id hS.tk
 rw [Hk.out] at t5
 have f5:=tf 5
 clear tf hS s0 s1 s2 s3 s4 s5 s6 s7 s8 s9
 go_wp2
 go_ret
 exact ⟨rfl,_,HS.out.own (setTk HS.out.tk (k' := { k1 with steps:=k.steps + 1 }) 5 (.int .i64 (k.steps + 1)) rfl) ((Keep.refl _ _).own 5 _)⟩
theorem zGR (now : Int) (hp : k.ph ≠ 0) (hT : IsTk w b k) (hM : IsMem base w p c v C L) (ha : ¬ Foot p c v b) (hb : base ≤ w.heap.size) :
  Calls Tryz.prog 122 #[pt b,pt p,i64 now] w (TickPost base w b p c v k C L (.returned (i64 k.ph))):=by
 have qp : (k.ph != 0) = true:=by simp [hp]
 have HS:=zI2 (Stepped.refl hT hM ha hb)
 clear hp hM ha
 obtain ⟨s0,s1,s2,s3,s4,s5,s6,s7,s8,s9,sf⟩:=id hT
 clear sf hT
 go_enter Tryz.func122,Tryz.ntmps122
 go_wp2
 go_ret
 exact ⟨rfl,_,HS.out⟩
theorem zD1 (now : Int) (k1 : Tk) (hk : k1.steps = k.steps) (hs0 : 0 ≤ k.steps) (hs1 : k.steps ≤ 1000000) (hp : k.ph = 0) (hso : k.so = 3 ∨ k.so = 4) (hT : IsTk w b k) (hM : IsMem base w p c v C L) (ha : ¬ Foot p c v b) (hb : base ≤ w.heap.size)
  (hin : Calls Tryz.prog 151 #[pt b,i64 (low now)] w fun r w'=>r = .returned (.tuple #[]) ∧ IsTk w' b k1 ∧ Keep (· = b) w w') :
  Calls Tryz.prog 122 #[pt b,pt p,i64 now] w (TickPost base w b p c v { k1 with steps:=k.steps + 1 } C L (.returned (i64 k1.ph))):=by
 have qp : (k.ph != 0) = false:=by simp [hp]
 have HS:=zI2 (Stepped.refl hT hM ha hb)
 have HIN:=zI2 hin
 have Hk:=zI2 hk
 have q0 : (k.so == 0) = false:=by simp; omega
 have q1 : (k.so == 1) = false:=by simp; omega
 have q2 : (k.so == 2) = false:=by simp; omega
 have h3 : ((k.so == 4) = false ∧ (k.so == 3) = true) ∨ ((k.so == 4) = true ∧ (k.so == 3) = false):=by
  rcases hso with h | h
  ·exact .inl ⟨by simp [h],by simp [h]⟩
  ·exact .inr ⟨by simp [h],by simp [h]⟩
 clear hin hk hso hp hM ha
 obtain ⟨s0,s1,s2,s3,s4,s5,s6,s7,s8,s9,sf⟩:=id hT
 clear sf hT
 have hlow : (now ≤ 16777215 ∧ low now = now) ∨ (16777215 < now ∧ low now = 16777215):=by unfold low; omega
 rcases h3 with ⟨q4,q3⟩ | ⟨q4,q3⟩
 all_goals
  rcases hlow with ⟨hn,hl⟩ | ⟨hn,hl⟩
  all_goals
   rw [hl] at HIN
   clear hl
   go_enter Tryz.func122,Tryz.ntmps122
   go_wp2_with fail
   refine HIN.out.mono ?_
   rintro r w1 ⟨rfl,hT1,hK1⟩
   have HS1:=zI2 (HS.out.own hT1 hK1)
   obtain ⟨t0,t1,t2,t3,t4,t5,t6,t7,t8,t9,tf⟩:=id hT1
   rw [Hk.out] at t5
   have f5:=tf 5
   clear tf hT1 hK1 s0 s1 s2 s3 s4 s5 s6 s7 s8 s9
   go_wp2
   go_ret
   exact ⟨rfl,_,HS1.out.own (setTk HS1.out.tk (k' := { k1 with steps:=k.steps + 1 }) 5 (.int .i64 (k.steps + 1)) rfl) ((Keep.refl _ _).own 5 _)⟩
theorem zBd (hT : IsTk w b k) : Calls Tryz.prog 126 #[pt b] w fun r w'=>r = .returned (st k.lo k.hi) ∧ Below w.heap.size w w':=by
 have hlt:=hT.lt
 obtain ⟨s0,s1,s2,s3,s4,s5,s6,s7,s8,s9,sf⟩:=hT
 clear sf
 go_enter Tryz.func126,Tryz.ntmps126
 go_wp2
 exact bodyPost_ret (v:=st k.lo k.hi) (by simp [results,Tryz.results126,go_sem]) rfl ⟨rfl,zAB (Below.refl _ _) _⟩
def tk0 (t s so d who : Int) : Tk:=⟨t,s,so,d,who,0,0,0,0,0⟩
theorem zH4 (t s so d who : Int) : Calls Tryz.prog 118 #[cf t s so d,i64 who] w fun r w' => ∃ b,r = .returned (pt b) ∧ IsTk w' b (tk0 t s so d who) ∧ Below w.heap.size w w' ∧ w.heap.size ≤ b:=by
 go_enter Tryz.func118,Tryz.ntmps118
 go_wp2
 go_ret
 refine ⟨w.heap.size + 1,rfl, ?_,zAB (zAB (Below.refl _ _) _) _,by omega⟩
 have h:=fun i=>World.cell?_alloc_new (w.alloc (.cells #[.int .i64 t,.int .i64 s,.int .i64 so,.int .i64 d] 24)) #[.int .i64 t,.int .i64 s,.int .i64 so,.int .i64 d,i64 who,.int .i64 0,.int .i64 0,.int .i64 0,.int .i64 0,.int .i64 0] 212 i
 rw [show (w.alloc (.cells #[.int .i64 t,.int .i64 s,.int .i64 so,.int .i64 d] 24)).heap.size = w.heap.size + 1 by simp] at h
 exact ⟨h 0,h 1,h 2,h 3,h 4,h 5,h 6,h 7,h 8,h 9,fun o=>World.frozen?_alloc_at _ _ _ _ (by simp)⟩
def most (t so d : Int) : Int:=if so = 0 then 1 else if so = 1 then t + 1 else if so = 2 then 4 else if so = 3 then 1 else d + 2
theorem zBN {C : List Int} {i : Nat} (h : i < C.length) : C[i]? = some (C.getD i 0):=by
 rw [List.getD_eq_getElem?_getD,List.getElem?_eq_getElem h]
 rfl
theorem zBj (k : Tk) (m x y : Int) : { fin k x y with steps:=m } = fin { k with steps:=m } x y:=by unfold fin; split <;> rfl
theorem zDy (k : Tk) (m x y : Int) : (fin k x y).ph = (fin { k with steps:=m } x y).ph:=by unfold fin; split <;> rfl
theorem zAb {F : FuncId} {args : Array Value} {k1 k2 : Tk} {C1 C2 : List Int} {L1 L2 : List Ev} {q : Int} (h : Calls Tryz.prog F args w (TickPost base w b p c v k1 C1 L1 (.returned (i64 q)))) (hk : k1 = k2) (hq : q = k2.ph) (hC : C1 = C2) (hL : L1 = L2) :
  Calls Tryz.prog F args w (TickPost base w b p c v k2 C2 L2 (.returned (i64 k2.ph))):=by
 subst hk hq hC hL
 exact h
theorem zHO (now : Int) (hk : k.Ok nb n C) (n0 : 0 ≤ now) (hT : IsTk w b k) (hM : IsMem base w p c v C L) (ha : ¬ Foot p c v b) (hb : base ≤ w.heap.size) (hL : L.length < 1000000000) :
  Calls Tryz.prog 122 #[pt b,pt p,i64 now] w (TickPost base w b p c v (stp nb k C now).1 (stp nb k C now).2.1 (L ++ (stp nb k C now).2.2.toList) (.returned (i64 (stp nb k C now).1.ph))):=by
 obtain ⟨hl,hnt,hlen,w0,w1,s0,s1,e0,e1,o0,o1,d0,d1,p0,p1,h2⟩:=hk
 have ht1:=hl.t1
 have hx0 : C[nb]? = some (C.getD nb 0):=zBN (by omega)
 unfold stp
 by_cases hp : k.ph = 0
 ·rw [if_pos hp]
  rcases (by omega : k.so = 0 ∨ k.so = 1 ∨ k.so = 2 ∨ (k.so = 3 ∨ k.so = 4)) with h | h | h | h
  ·rw [if_pos h]
   exact zAb base w b p c v (zIg base w b p c v k now _ _ _ (zBH _ _ _) s0 s1 hp h hT (zFL base w b p c v C L k nb n _ hT hM ha hl hnt hx0 hb hL)) (zBj _ _ _ _) (zDy _ _ _ _) rfl rfl
  ·rw [if_neg (by omega),if_pos h]
   by_cases hlt : k.steps < k.t
   ·rw [if_pos hlt]
    have hj : k.steps = (k.steps.toNat : Int):=by omega
    exact zAb base w b p c v (zEO base w b p c v k now _ _ _ (by exact rfl) s0 s1 hp h hT (zD3 base w b p c v C L k nb n _ _ hj hlt hT hM ha hl hnt (zBN (by omega)) hb hL)) rfl rfl rfl rfl
   ·rw [if_neg hlt]
    by_cases hf : k.seen + 1 < 16777215
    ·rw [if_pos hf]
     have hj : k.who = (k.who.toNat : Int):=by omega
     exact zAb base w b p c v (zEO base w b p c v k now _ _ _ (by exact rfl) s0 s1 hp h hT (zDz base w b p c v C L k nb n _ _ hj w1 (by omega) e0 hf hT hM ha hl hnt (zBN (by omega)) hb hL)) rfl rfl rfl rfl
    ·rw [if_neg hf]
     exact zAb base w b p c v (zEO base w b p c v k now _ _ _ (by exact rfl) s0 s1 hp h hT (zD8 base w b p c v C L k (by omega) e0 e1 (by omega) hT hM ha hb)) rfl rfl rfl (List.append_nil _).symm
  ·rw [if_neg (by omega),if_neg (by omega),if_pos h]
   by_cases h0 : k.steps = 0
   ·rw [if_pos h0]
    exact zAb base w b p c v (zCU base w b p c v k now _ _ _ (by exact rfl) s0 s1 hp h hT (swap_0 base w b p c v C L k nb n _ h0 hT hM ha hl hnt hx0 hb hL hp)) rfl rfl rfl rfl
   ·rw [if_neg h0]
    by_cases h1 : k.steps = 1
    ·rw [if_pos h1]
     refine zAb base w b p c v (zCU base w b p c v k now _ _ _ ?_ s0 s1 hp h hT (swap_1 base w b p c v C L k nb n _ h1 hT hM ha hl hnt hx0 hb hL)) ?_ ?_ rfl rfl
     ·split
      ·rfl
      ·exact zBH _ _ _
     ·show _ = if low (C.getD nb 0) = k.seen then _ else _
      split
      ·rfl
      ·exact zBj _ _ _ _
     ·show _ = Tk.ph (if low (C.getD nb 0) = k.seen then _ else _)
      split
      ·rfl
      ·exact zDy _ _ _ _
    ·rw [if_neg h1]
     by_cases h3 : k.steps = 2
     ·rw [if_pos h3]
      have hs:=h2 h (by omega) hp
      by_cases hx : C.getD nb 0 = k.seen
      ·rw [if_pos hx]
       exact zAb base w b p c v (zCU base w b p c v k now _ _ _ (zBH _ _ _) s0 s1 hp h hT (zIl base w b p c v C L k nb n _ h3 hx hs hT hM ha hl hnt hx0 hb hL)) (zBj _ _ _ _) (zDy _ _ _ _) rfl rfl
      ·rw [if_neg hx]
       exact zAb base w b p c v (zCU base w b p c v k now _ _ _ (by exact rfl) s0 s1 hp h hT (zIo base w b p c v C L k nb n _ h3 hx e0 hs hT hM ha hl hnt hx0 hb hL)) rfl rfl rfl rfl
     ·rw [if_neg h3]
      exact zAb base w b p c v (zCU base w b p c v k now _ _ _ (zBH _ _ _) s0 s1 hp h hT (swap_3 base w b p c v C L k nb n _ (by omega) hT hM ha hl hnt hx0 hb hL)) (zBj _ _ _ _) (zDy _ _ _ _) rfl rfl
  ·rw [if_neg (by omega),if_neg (by omega),if_neg (by omega)]
   by_cases hf : k.so = 3 ∨ k.d < k.steps
   ·rw [if_pos hf]
    exact zAb base w b p c v (zD1 base w b p c v C L k now _ (by exact zBH _ _ _) s0 s1 hp h hT hM ha hb (zHY w b k (low now) (by omega) hT)) (zBj _ _ _ _) (zDy _ _ _ _) rfl (List.append_nil _).symm
   ·rw [if_neg hf]
    exact zAb base w b p c v (zD1 base w b p c v C L k now _ (by exact rfl) s0 s1 hp h hT hM ha hb (zIT w b k (low now) (by omega) (by omega) hT)) rfl rfl rfl (List.append_nil _).symm
 ·rw [if_neg hp]
  exact zAb base w b p c v (zGR base w b p c v C L k now hp hT hM ha hb) rfl rfl rfl (List.append_nil _).symm
end
end
section
theorem src5 (a : Int) : 0 ≤ wrap64 ((IntKind.u64.wrap a).tmod 5) ∧ wrap64 ((IntKind.u64.wrap a).tmod 5) ≤ 4:=by
 have h0 : 0 ≤ IntKind.u64.wrap a:=by rw [IntKind.wrap_u64]; omega
 rw [Int.tmod_eq_emod_of_nonneg h0]
 unfold wrap64
 omega
structure AtC (w : World) (b : Nat) (t s so d : Int) : Prop where
 c0 : w.cell? ⟨b,0,none⟩ = some (i64 t)
 c1 : w.cell? ⟨b,1,none⟩ = some (i64 s)
 c2 : w.cell? ⟨b,2,none⟩ = some (i64 so)
 c3 : w.cell? ⟨b,3,none⟩ = some (i64 d)
theorem AtC.later {w w' : World} {b n : Nat} {t s so d : Int} (h : AtC w b t s so d) (k : Below n w w') (hn : b < n) : AtC w' b t s so d :=
 ⟨(k.cell (p:=⟨b,0,none⟩) hn).trans h.c0,(k.cell (p:=⟨b,1,none⟩) hn).trans h.c1,(k.cell (p:=⟨b,2,none⟩) hn).trans h.c2,(k.cell (p:=⟨b,3,none⟩) hn).trans h.c3⟩
theorem AtC.made (w : World) (t s so d : Int) : AtC (w.alloc (.cells #[.int .i64 t,.int .i64 s,.int .i64 so,.int .i64 d] 24)) w.heap.size t s so d :=
 ⟨World.cell?_alloc_new w _ _ 0,World.cell?_alloc_new w _ _ 1,World.cell?_alloc_new w _ _ 2,World.cell?_alloc_new w _ _ 3⟩
theorem zAr (C : List Int) (i j : Nat) (x : Int) : (C.set i x).getD j 0 = if i = j ∧ j < C.length then x else C.getD j 0:=by
 rw [List.getD_eq_getElem?_getD,List.getElem?_set,List.getD_eq_getElem?_getD]
 by_cases h : i = j
 ·subst h
  by_cases h2 : i < C.length
  ·simp [h2]
  ·simp [h2]
 ·simp [h]
end
section
structure AtHead (w : World) (b : Nat) (t s so d who x : Int) : Prop where
 c0 : w.cell? ⟨b,0,none⟩ = some (i64 t)
 c1 : w.cell? ⟨b,1,none⟩ = some (i64 s)
 c2 : w.cell? ⟨b,2,none⟩ = some (i64 so)
 c3 : w.cell? ⟨b,3,none⟩ = some (i64 d)
 c4 : w.cell? ⟨b,4,none⟩ = some (i64 who)
 c5 : w.cell? ⟨b,5,none⟩ = some (i64 x)
structure Cl where
 t : Int
 s : Int
 so : Int
 d : Int
 who : Int
 slot : Int
 steps : Int
 ws : Int
 we : Int
 wg : Int
 wl : Int
 wh : Int
 ph : Int
abbrev Cl.list (k : Cl) : List Value:=[i64 k.t,i64 k.s,i64 k.so,i64 k.d,i64 k.who,i64 k.slot,i64 k.steps,i64 k.ws,i64 k.we,i64 k.wg,i64 k.wl,i64 k.wh,i64 k.ph]
structure AtCl (w : World) (b : Nat) (k : Cl) : Prop where
 c0 : w.cell? ⟨b,0,none⟩ = some (i64 k.t)
 c1 : w.cell? ⟨b,1,none⟩ = some (i64 k.s)
 c2 : w.cell? ⟨b,2,none⟩ = some (i64 k.so)
 c3 : w.cell? ⟨b,3,none⟩ = some (i64 k.d)
 c4 : w.cell? ⟨b,4,none⟩ = some (i64 k.who)
 c5 : w.cell? ⟨b,5,none⟩ = some (i64 k.slot)
 c6 : w.cell? ⟨b,6,none⟩ = some (i64 k.steps)
 c7 : w.cell? ⟨b,7,none⟩ = some (i64 k.ws)
 c8 : w.cell? ⟨b,8,none⟩ = some (i64 k.we)
 c9 : w.cell? ⟨b,9,none⟩ = some (i64 k.wg)
 c10 : w.cell? ⟨b,10,none⟩ = some (i64 k.wl)
 c11 : w.cell? ⟨b,11,none⟩ = some (i64 k.wh)
 c12 : w.cell? ⟨b,12,none⟩ = some (i64 k.ph)
theorem IsObj.cl {w : World} {b : Nat} {k : Cl} (h : IsObj w b k.list) : AtCl w b k :=
 ⟨h.at' 0 _ rfl,h.at' 1 _ rfl,h.at' 2 _ rfl,h.at' 3 _ rfl,h.at' 4 _ rfl,h.at' 5 _ rfl,h.at' 6 _ rfl,h.at' 7 _ rfl,h.at' 8 _ rfl,h.at' 9 _ rfl,h.at' 10 _ rfl,h.at' 11 _ rfl,h.at' 12 _ rfl⟩
theorem IsObj.head {w : World} {b : Nat} {t s so d who x : Int} {l : List Value} (h : IsObj w b (i64 t :: i64 s :: i64 so :: i64 d :: i64 who :: i64 x :: l)) : AtHead w b t s so d who x :=
 ⟨h.at' 0 _ rfl,h.at' 1 _ rfl,h.at' 2 _ rfl,h.at' 3 _ rfl,h.at' 4 _ rfl,h.at' 5 _ rfl⟩
def Cl.word (k : Cl) (x : Int) : Cl := { k with ws:=x % 4,we:=x / 4 % 2,wg:=x / 8 % 8192,wl:=x / 65536 % 16777216,wh:=x / 1099511627776 }
def Cl.pass (k : Cl) (m : Int) : Cl:=if k.slot = m + k.s - 1 then { k with ph:=2 } else { k with slot:=k.slot + 1,steps:=0 }
def Cl.look (k : Cl) (m x : Int) : Cl:=if x / 8 % 8192 = 8191 then (k.word x).pass m else if x % 4 = 0 then { k.word x with ph:=1 } else if x % 4 = 2 then { k.word x with steps:=1 } else (k.word x).pass m
def Cl.guard (k : Cl) (m x : Int) : Cl:=if x = k.slot + 1 then k.pass m else if k.steps = k.t then { k with ph:=1 } else { k with steps:=k.steps + 1 }
def Cl.cell (k : Cl) (hz : Nat) : Nat:=if k.steps = 0 then k.slot.toNat else hz + (k.steps - 1).toNat
def Cl.step (k : Cl) (m : Int) (hz : Nat) (C : List Int) : Cl:=if k.ph = 0 then if k.steps = 0 then k.look m (C.getD (k.cell hz) 0) else k.guard m (C.getD (k.cell hz) 0) else k
def Cl.ev (k : Cl) (hz : Nat) (C : List Int) : List Ev:=if k.ph = 0 then [⟨k.who,0,(k.cell hz : Nat),C.getD (k.cell hz) 0,C.getD (k.cell hz) 0,true⟩] else []
structure Cl.Ok (k : Cl) (n m : Int) (hz : Nat) (C : List Int) : Prop where
 lay : Lay k.t k.s n
 hz : (hz : Int) = 2 * n
 len : (C.length : Int) = 2 * n + 2 * k.t
 w0 : 0 ≤ k.who
 w1 : k.who < k.t
 hm : k.who * k.s = m
 m0 : 0 ≤ m
 m1 : m + k.s ≤ n
 s0 : m ≤ k.slot
 s1 : k.slot < m + k.s
 g0 : 0 ≤ k.steps
 g1 : k.steps ≤ k.t
theorem zBF (w : World) (b : Nat) (k : Cl) (n m : Int) (hl : Lay k.t k.s n) (w0 : 0 ≤ k.who) (w1 : k.who < k.t) (hm : k.who * k.s = m) (m0 : 0 ≤ m) (m1 : m + k.s ≤ n) (s0 : m ≤ k.slot) (s1 : k.slot < m + k.s) (hT : IsObj w b k.list) :
  Calls Tryz.prog 165 #[pt b] w fun r w'=>r = .returned (.tuple #[]) ∧ IsObj w' b (k.pass m).list ∧ Keep (· = b) w w':=by
 have hn2:=hl.n2
 have hs1:=hl.s1
 have hs2:=hl.s2
 have HT:=zI2 hT
 have hA : AtHead w.drew b k.t k.s k.so k.d k.who k.slot:=hT.drew.head
 have hlt:=hT.lt
 have Hm:=zI2 hm
 have e1 : IntKind.i64.wrap (m + k.s) = m + k.s:=IntWalk.i64_in _ (by omega)
 have e2 : IntKind.i64.wrap (m + k.s - 1) = m + k.s - 1:=IntWalk.i64_in _ (by omega)
 clear hT hm
 unfold Cl.pass
 by_cases he : k.slot = m + k.s - 1
 ·have q : (k.slot == m + k.s - 1) = true:=by simp [he]
  rw [if_pos he]
  clear he
  go_enter Tryz.func165,Tryz.ntmps165
  go_wp2_with fail
  refine zAF ((fun w'=>AtHead w' b k.t k.s k.so k.d k.who k.slot)) ((0,true) :: (1,true) :: (2,true) :: (3,true) :: (4,true) :: (5,true) :: (6,true) :: (7,true) :: (8,true) :: (9,true) :: (10,true) :: (11,true) :: (13,true) :: (14,true) :: (15,true) :: (16,true) :: (17,true) :: (12,false) :: (18,true) :: (19,true) :: (20,true) :: []) (by kernel_rfl) (by kernel_rfl) (by kernel_rfl) (by decide) (fun _ _ _ _ _ h=>h) (hA) ?_
  repeat ((first | (refine zAC (v := ?_) rfl ?_ ?_ ?_; rotate_left 1; rfl; focus (rintro wS ⟨c0,c1,c2,c3,c4,c5⟩; go_simp <;> with_reducible rfl)) | (refine zAD rfl ?_ ?_; rfl)); try simp only [Act.put,qset])
  refine zAG rfl (fun K hK=>?_)
  go_simp
  go_at_call 145
  refine (zB0 _ _ _ _ n _ m _ hl w0 w1 Hm.out m0 (by omega)).mono ?_
  rintro r w1 ⟨rfl,hb1⟩
  (try go_wp2_with fail)
  have HT1:=zI2 (HT.out.drew.later hb1)
  have HB:=zI2 hb1
  clear hb1
  refine hK.out _ _ (HT1.out.head) (fun _=>?_)
  (try simp only [Act.put,qset])
  clear hK K
  repeat ((first | (refine zAC (v := ?_) rfl ?_ ?_ ?_; rotate_left 1; rfl; focus (rintro wS ⟨c0,c1,c2,c3,c4,c5⟩; go_simp <;> with_reducible rfl)) | (refine zAD rfl ?_ ?_; rfl)); try simp only [Act.put,qset])
  refine zAI ?_
  obtain ⟨c0,c1,c2,c3,c4,c5,c6,c7,c8,c9,c10,c11,c12⟩:=HT1.out.cl
  have f12:=HT1.out.fz 12
  go_wp2
  refine bodyPost_ret (results_none rfl _ _ _) rfl ?_
  exact ⟨rfl,HT1.out.set 12 (.int .i64 2),((Keep.refl _ _).drew.trans (Keep.of_below HB.out)).own 12 _⟩
 ·have q : (k.slot == m + k.s - 1) = false:=by simp [he]
  rw [if_neg he]
  clear he
  go_enter Tryz.func165,Tryz.ntmps165
  go_wp2_with fail
  refine zAF ((fun w'=>AtHead w' b k.t k.s k.so k.d k.who k.slot)) ((0,true) :: (1,true) :: (2,true) :: (3,true) :: (4,true) :: (5,true) :: (6,true) :: (7,true) :: (8,true) :: (9,true) :: (10,true) :: (11,true) :: (13,true) :: (14,true) :: (15,true) :: (16,true) :: (17,true) :: (12,false) :: (18,true) :: (19,true) :: (20,true) :: []) (by kernel_rfl) (by kernel_rfl) (by kernel_rfl) (by decide) (fun _ _ _ _ _ h=>h) (hA) ?_
  repeat ((first | (refine zAC (v := ?_) rfl ?_ ?_ ?_; rotate_left 1; rfl; focus (rintro wS ⟨c0,c1,c2,c3,c4,c5⟩; go_simp <;> with_reducible rfl)) | (refine zAD rfl ?_ ?_; rfl)); try simp only [Act.put,qset])
  refine zAG rfl (fun K hK=>?_)
  go_simp
  go_at_call 145
  refine (zB0 _ _ _ _ n _ m _ hl w0 w1 Hm.out m0 (by omega)).mono ?_
  rintro r w1 ⟨rfl,hb1⟩
  (try go_wp2_with fail)
  have HT1:=zI2 (HT.out.drew.later hb1)
  have HB:=zI2 hb1
  clear hb1
  refine hK.out _ _ (HT1.out.head) (fun _=>?_)
  (try simp only [Act.put,qset])
  clear hK K
  repeat ((first | (refine zAC (v := ?_) rfl ?_ ?_ ?_; rotate_left 1; rfl; focus (rintro wS ⟨c0,c1,c2,c3,c4,c5⟩; go_simp <;> with_reducible rfl)) | (refine zAD rfl ?_ ?_; rfl)); try simp only [Act.put,qset])
  refine zAI ?_
  obtain ⟨c0,c1,c2,c3,c4,c5,c6,c7,c8,c9,c10,c11,c12⟩:=HT1.out.cl
  have e3 : wrap64 (k.slot + 1) = k.slot + 1:=by unfold wrap64; omega
  have f5:=HT1.out.fz 5
  have f6:=HT1.out.fz 6
  go_wp2
  go_end0
  exact ⟨rfl,(HT1.out.set 5 (.int .i64 (k.slot + 1))).set 6 (.int .i64 0),(((Keep.refl _ _).drew.trans (Keep.of_below HB.out)).own 5 _).own 6 _⟩
theorem zDX (base : Nat) (w : World) (p c : Nat) (v : Value) (C : List Int) (L : List Ev) (who i : Int) (j : Nat) (x : Int) (hi : i = (j : Int)) (hM : IsMem base w p c v C L) (hx : C[j]? = some x) (hb : base ≤ w.heap.size) (hL : L.length < 1000000000) :
  Calls Tryz.prog 164 #[pt p,i64 who,i64 i] w (MemPost base w p c v C (L ++ [⟨who,0,j,x,x,true⟩]) (.returned (u64 x))):=by
 subst hi
 exact zAu base w p c v C L who j x hM hx hb hL
def ClPost (base : Nat) (w : World) (b p c : Nat) (v : Value) (k' : Cl) (C' : List Int) (L' : List Ev) (e0 : Ending) (e : Ending) (w' : World) : Prop :=
 e = e0 ∧ ∃ v',Does (· = b) base w w' p c v v' C' L' ∧ IsObj w' b k'.list
end
end
end Go.Proofs.YtebgjfhaolgcjaaGreat
