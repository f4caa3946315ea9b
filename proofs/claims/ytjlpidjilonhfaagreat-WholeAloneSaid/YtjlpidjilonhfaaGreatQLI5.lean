/- Contracts and plain lemmas that these laws need. No condition. -/

import Derived.Test.YtjlpidjilonhfaaGreatQLI1
import Derived.Test.YtjlpidjilonhfaaGreatQLI3
import Derived.Test.YtjlpidjilonhfaaGreatQLI4
namespace Go.Proofs.YtjlpidjilonhfaaGreat
set_option linter.unusedVariables false
set_option maxHeartbeats 8000000
set_option maxRecDepth 100000
section
open Go.RowKit
section
structure Ge where
 t : Int
 s : Int
 so : Int
 d : Int
 who : Int
 e : Int
 start : Int
 tries : Int
 ph : Int
 sn : Sn
 ta : Option Ta
def tpt : Option Nat → Value
 | none=>.pointer none
 | some b=>pt b
abbrev Ge.list (k : Ge) (bs : Nat) (bt : Option Nat) : List Value:=[i64 k.t,i64 k.s,i64 k.so,i64 k.d,i64 k.who,i64 k.e,i64 k.start,pt bs,tpt bt,i64 k.tries,i64 k.ph]
structure AtGe (w : World) (b : Nat) (k : Ge) : Prop where
 c0 : w.cell? ⟨b,0,none⟩ = some (i64 k.t)
 c1 : w.cell? ⟨b,1,none⟩ = some (i64 k.s)
 c2 : w.cell? ⟨b,2,none⟩ = some (i64 k.so)
 c3 : w.cell? ⟨b,3,none⟩ = some (i64 k.d)
 c4 : w.cell? ⟨b,4,none⟩ = some (i64 k.who)
 c5 : w.cell? ⟨b,5,none⟩ = some (i64 k.e)
 c6 : w.cell? ⟨b,6,none⟩ = some (i64 k.start)
theorem IsObj.ge {w : World} {b bs : Nat} {bt : Option Nat} {k : Ge} (h : IsObj w b (k.list bs bt)) : AtGe w b k :=
 ⟨h.at' 0 _ rfl,h.at' 1 _ rfl,h.at' 2 _ rfl,h.at' 3 _ rfl,h.at' 4 _ rfl,h.at' 5 _ rfl,h.at' 6 _ rfl⟩
theorem AtGe.to {w : World} {b : Nat} {k : Ge} (h : AtGe w b k) (k' : Ge) (e0 : k.t = k'.t) (e1 : k.s = k'.s) (e2 : k.so = k'.so) (e3 : k.d = k'.d) (e4 : k.who = k'.who) (e5 : k.e = k'.e) (e6 : k.start = k'.start) : AtGe w b k' :=
 ⟨e0 ▸ h.c0,e1 ▸ h.c1,e2 ▸ h.c2,e3 ▸ h.c3,e4 ▸ h.c4,e5 ▸ h.c5,e6 ▸ h.c6⟩
def GeB (b bs gs : Nat) (bt : Option Nat) (i : Nat) : Prop:=i = b ∨ i = bs ∨ i = gs ∨ bt = some i
structure IsGe (base : Nat) (w : World) (b bs gs : Nat) (bt : Option Nat) (k : Ge) : Prop where
 obj : IsObj w b (k.list bs bt)
 sn : IsSn base w bs gs k.sn
 ta : (bt = none ∧ k.ta = none) ∨ ∃ x a,bt = some x ∧ k.ta = some a ∧ IsObj w x a.list ∧ base ≤ x
 bb : base ≤ b
 n1 : b ≠ bs
 n2 : b ≠ gs
 n3 : ∀ x,bt = some x → x ≠ b ∧ x ≠ bs ∧ x ≠ gs
section
variable {base : Nat} {w w' : World} {b bs gs : Nat} {bt : Option Nat} {k : Ge}
theorem IsGe.keep {T : Nat → Prop} (h : IsGe base w b bs gs bt k) (e : Keep T w w') (hn : ∀ i,GeB b bs gs bt i → ¬ T i) : IsGe base w' b bs gs bt k:=by
 refine ⟨h.obj.keep e (hn b (.inl rfl)),h.sn.keep e (hn bs (.inr (.inl rfl))) (hn gs (.inr (.inr (.inl rfl)))), ?_,h.bb,h.n1,h.n2,h.n3⟩
 rcases h.ta with h1 | ⟨x,a,h1,h2,h3,h4⟩
 ·exact .inl h1
 ·exact .inr ⟨x,a,h1,h2,h3.keep e (hn x (.inr (.inr (.inr h1)))),h4⟩
theorem IsGe.later (h : IsGe base w b bs gs bt k) (e : Below w.heap.size w w') : IsGe base w' b bs gs bt k:=h.keep (T:=fun _=>False) (Keep.of_below e) (fun _ _ h=>h)
theorem IsGe.drew (h : IsGe base w b bs gs bt k) : IsGe base w.drew b bs gs bt k:=h.later (Below.refl _ _).drew
theorem IsGe.lt (h : IsGe base w b bs gs bt k) : ∀ i,GeB b bs gs bt i → base ≤ i ∧ i < w.heap.size:=by
 rintro i (rfl | rfl | rfl | hi)
 ·exact ⟨h.bb,h.obj.lt⟩
 ·exact ⟨h.sn.bb,h.sn.obj.lt⟩
 ·exact h.sn.gb
 ·rcases h.ta with ⟨h1,_⟩ | ⟨x,a,h1,h2,h3,h4⟩
  ·rw [h1] at hi
   cases hi
  ·rw [h1] at hi
   cases hi
   exact ⟨h4,h3.lt⟩
end
theorem Does.wideG {B B' : Nat → Prop} {base : Nat} {w w1 : World} {p c : Nat} {v v1 : Value} {C1 : List Int} {L1 : List Ev} (h : Does B base w w1 p c v v1 C1 L1) (hB : ∀ i,B i → B' i) (ha : ∀ i,B' i → ¬ Foot p c v i) (hlt : ∀ i,B' i → i < w.heap.size) : Does B' base w w1 p c v v1 C1 L1 :=
 ⟨h.mem,fun i hi hf=>by
  rcases hf with h1 | h1 | h1
  ·exact ha i hi (.inl h1)
  ·exact ha i hi (.inr (.inl h1))
  ·rcases h.moved i h1 with h2 | h2
   ·exact ha i hi (.inr (.inr h2))
   ·have:=hlt i hi
    omega,h.keep.mono (fun i hi=>hi.imp (hB i) id),h.moved,h.size⟩
theorem zGf (W : World) (a : Option Addr) (cap : Nat) (ws : List Int) (n : Nat) (e : Int) (he : e = 0 ∨ e = 1) (hW : IsWs W a ws) (hn : ws.length = n) (hn2 : n ≤ 1000000) :
  Calls Tryz.prog 88 #[.slice a n cap,i64 e] W fun r w' => ∃ z : Int,r = .returned (i64 z) ∧ IsEnd ws e z ∧ Below W.heap.size W w':=by
 subst hn
 exact at_any W a cap ws e he hW hn2
def Ge.read (k : Ge) (sn' : Sn) (z : Int) : Ge:=if sn'.ph ≠ 1 then { k with sn:=sn' } else if z < 0 then { k with sn:=sn',ph:=2 } else { k with sn:=sn',ta:=some (ta0 k.t k.s k.so k.d k.who z (sn'.X.getD z.toNat 0)) }
def Ge.grab (k : Ge) (N : Nat) (a : Ta) : Ge:=if a.ph = 1 then { k with ta:=some a,ph:=1 } else if a.ph = 2 then { k with tries:=k.tries + 1,sn:=sn0 k.t k.s k.so k.d k.who (IntKind.u64.wrap k.start % N) N,ta:=none } else { k with ta:=some a }
def GePost (base : Nat) (w : World) (b bs gs : Nat) (bt : Option Nat) (p c : Nat) (v : Value) (k' : Ge) (C' : List Int) (L' : List Ev) (w' : World) : Prop :=
 ∃ v' bs' gs' bt',Does (GeB b bs gs bt) base w w' p c v v' C' L' ∧ IsGe base w' b bs' gs' bt' k' ∧ (∀ i,GeB b bs' gs' bt' i → GeB b bs gs bt i ∨ w.heap.size ≤ i) ∧ ∀ i,GeB b bs' gs' bt' i → ¬ Foot p c v' i
section
variable (base : Nat) (w : World) (b bs gs p c : Nat) (bt : Option Nat) (v : Value) (C : List Int) (L : List Ev) (k : Ge) (N : Nat)
theorem zGB (sn' : Sn) (L1 : List Ev) (hn : sn'.ph ≠ 1) (hT : IsGe base w b bs gs bt k) (ha : ∀ i,GeB b bs gs bt i → ¬ Foot p c v i)
  (hin : Calls Tryz.prog 86 #[pt bs,pt p] w (SnPost base w bs gs p c v sn' C L1 (.returned (i64 sn'.ph)))) :
  Calls Tryz.prog 72 #[pt b,pt p] w fun r w'=>r = .returned (.tuple #[]) ∧ GePost base w b bs gs bt p c v { k with sn:=sn' } C L1 w':=by
 have q1 : (sn'.ph != 1) = true:=by simp [hn]
 have HIN:=zIo hin
 have HT:=zIo hT
 have HA:=zIo ha
 have c7:=hT.obj.at' 7 _ rfl
 clear hT ha hin hn
 go_enter Tryz.func72,Tryz.ntmps72
 go_wp2_with fail
 refine HIN.out.mono ?_
 rintro r w1 ⟨rfl,v1,hD,hO⟩
 have HD:=zIo (hD.wideG (B':=GeB b bs gs bt) (fun i hi=>by rcases hi with rfl | rfl; exact .inr (.inl rfl); exact .inr (.inr (.inl rfl))) HA.out (fun i hi=>(HT.out.lt i hi).2))
 have hne : ∀ i,(i = b ∨ bt = some i) → ¬ ((i = bs ∨ i = gs) ∨ Foot p c v i):=by
  rintro i (rfl | hi) (h | h)
  ·rcases h with h | h
   ·exact HT.out.n1 h
   ·exact HT.out.n2 h
  ·exact HA.out i (.inl rfl) h
  ·rcases h with h | h
   ·exact (HT.out.n3 i hi).2.1 h
   ·exact (HT.out.n3 i hi).2.2 h
  ·exact HA.out i (.inr (.inr (.inr hi))) h
 have HG : Hid (IsGe base w1 b bs gs bt { k with sn:=sn' }):=by
  refine ⟨HT.out.obj.keep hD.keep (hne b (.inl rfl)),hO, ?_,HT.out.bb,HT.out.n1,HT.out.n2,HT.out.n3⟩
  rcases HT.out.ta with h1 | ⟨x,a,h1,h2,h3,h4⟩
  ·exact .inl h1
  ·exact .inr ⟨x,a,h1,h2,h3.keep hD.keep (hne x (.inr h1)),h4⟩
 clear hD hO hne c7
 go_wp2
 refine bodyPost_ret (results_none rfl _ _ _) rfl ?_
 exact ⟨rfl,v1,bs,gs,bt,HD.out,HG.out,fun i hi=>.inl hi,HD.out.apart⟩
theorem zFp (sn' : Sn) (L1 : List Ev) (hn : sn'.ph = 1) (hN : sn'.N = N) (hN0 : 1 ≤ N) (hN4 : N ≤ 4096) (he : k.e = 0 ∨ k.e = 1) (hX : ∀ i,0 ≤ sn'.X.getD i 0 ∧ sn'.X.getD i 0 ≤ 18446744073709551615) (hta : k.ta = none) (hT : IsGe base w b bs gs bt k) (ha : ∀ i,GeB b bs gs bt i → ¬ Foot p c v i)
  (hin : Calls Tryz.prog 86 #[pt bs,pt p] w (SnPost base w bs gs p c v sn' C L1 (.returned (i64 sn'.ph)))) :
  Calls Tryz.prog 72 #[pt b,pt p] w fun r w'=>r = .returned (.tuple #[]) ∧ ∃ z,IsEnd sn'.X k.e z ∧ GePost base w b bs gs bt p c v (k.read sn' z) C L1 w':=by
 have q1 : (sn'.ph != 1) = false:=by simp [hn]
 have HIN:=zIo hin
 have HT:=zIo hT
 have HA:=zIo ha
 have HX:=zIo hX
 have HN1:=zIo hn
 have HE:=zIo he
 have c7:=hT.obj.at' 7 _ rfl
 obtain rfl : bt = none:=by
  rcases hT.ta with ⟨h1,_⟩ | ⟨x,a,h1,h2,_⟩
  ·exact h1
  ·rw [hta] at h2
   cases h2
 have HTA:=zIo hta
 clear hT ha hin hn hX he hta
 go_enter Tryz.func72,Tryz.ntmps72
 go_wp2_with fail
 refine HIN.out.mono ?_
 rintro r w1 ⟨rfl,v1,hD,hO⟩
 have HD:=zIo (hD.wideG (B':=GeB b bs gs none) (fun i hi=>by rcases hi with rfl | rfl; exact .inr (.inl rfl); exact .inr (.inr (.inl rfl))) HA.out (fun i hi=>(HT.out.lt i hi).2))
 have hne : ¬ ((b = bs ∨ b = gs) ∨ Foot p c v b):=by
  rintro (h | h)
  ·rcases h with h | h
   ·exact HT.out.n1 h
   ·exact HT.out.n2 h
  ·exact HA.out b (.inl rfl) h
 have HG : Hid (IsGe base w1 b bs gs none { k with sn:=sn' }):=⟨HT.out.obj.keep hD.keep hne,hO,.inl ⟨rfl,HTA.out⟩,HT.out.bb,HT.out.n1,HT.out.n2,HT.out.n3⟩
 have HIN1 : Hid (w.heap.size ≤ w1.heap.size):=hD.keep.size
 clear hD hO hne c7 HIN
 have c7:=HG.out.obj.at' 7 _ rfl
 go_wp2_with fail
 refine (zEK base _ bs gs sn' HN1.out (by rw [hN]; exact hN4) HG.out.sn).mono ?_
 rintro r w2 ⟨h,rfl,hrow,hb2⟩
 rw [hN] at hrow ⊢
 have hwsl : sn'.X.length = N:=HG.out.sn.len.trans hN
 have hws:=zGS hrow HX.out
 replace HG:=zIo (HG.out.later hb2)
 replace HD:=zIo (HD.out.later hb2)
 have HWS:=zIo hws
 have hh : h < w2.heap.size ∧ w1.heap.size ≤ h:=by have:=hrow.lt h rfl; omega
 have HHh:=zIo hh
 clear hrow hb2 hws c7 hh
 have c5:=HG.out.obj.at' 5 _ rfl
 go_wp2_with fail
 refine (zGf _ (some ⟨h,0,none⟩) N sn'.X N k.e HE.out HWS.out hwsl (by omega)).mono ?_
 rintro r w3 ⟨z,rfl,hz,hb3⟩
 replace HG:=zIo (HG.out.later hb3)
 replace HD:=zIo (HD.out.later hb3)
 replace HWS:=zIo (HWS.out.later hb3)
 have HZ:=zIo hz
 clear c5 hb3
 have hzc : (z = -1) ∨ ∃ i : Nat,z = (i : Int) ∧ i < N:=by
  rcases hz with ⟨h1,_⟩ | ⟨i,h1,h2,_⟩
  ·exact .inl h1
  ·exact .inr ⟨i,h1,by omega⟩
 clear hz
 rcases hzc with rfl | ⟨i,rfl,hiN⟩
 ·have f10:=HG.out.obj.fz 10
  have c10:=HG.out.obj.at' 10 _ rfl
  go_wp2
  refine bodyPost_ret (results_none rfl _ _ _) rfl ?_
  have hk:=(Keep.refl (· = b) w3).own 10 (.int .i64 2)
  refine ⟨rfl, -1,HZ.out,v1,bs,gs,none,HD.out.own (hk.mono (fun i hi=>.inl hi)), ?_,fun i hi=>.inl hi,HD.out.apart⟩
  have e : k.read sn' (-1) = { k with sn:=sn',ph:=2 }:=by unfold Ge.read; rw [if_neg (by rw [HN1.out]; exact fun h=>h rfl),if_pos (by decide)]
  rw [e]
  exact ⟨HG.out.obj.set 10 (.int .i64 2),HG.out.sn.keep hk (fun h=>HG.out.n1 h.symm) (fun h=>HG.out.n2 h.symm),.inl ⟨rfl,HTA.out⟩,HG.out.bb,HG.out.n1,HG.out.n2,HG.out.n3⟩
 ·have hwc : w3.cell? ⟨h,i,none⟩ = some (u64 (sn'.X.getD i 0)):=by
   obtain ⟨b',off,hbo,hc⟩:=HWS.out.has (by omega)
   cases hbo
   have:=hc i (by omega)
   rw [Nat.zero_add] at this
   exact this
  have HWC:=zIo hwc
  have hx0:=HX.out i
  obtain ⟨x,hx⟩ : ∃ x,sn'.X.getD i 0 = x:=⟨_,rfl⟩
  rw [hx] at hwc hx0
  have Hx:=zIo hx
  have hiN' : (i : Int) < (N : Int):=by omega
  clear hx HWC
  go_wp2_with fail
  refine zAD ((fun w'=>AtGe w' b k ∧ w'.cell? ⟨h,i,none⟩ = some (.int .u64 x))) ((0,true) :: (1,true) :: (2,true) :: (3,true) :: (4,true) :: (5,true) :: (6,true) :: (7,true) :: (8,true) :: (9,true) :: (10,true) :: (11,true) :: (12,true) :: (13,true) :: (14,false) :: (15,true) :: (16,true) :: (17,false) :: []) (by kernel_rfl) (by kernel_rfl) (by kernel_rfl) (by decide) (fun _ _ _ _ _ h=>h) (⟨(HG.out.obj.drew.ge).to k rfl rfl rfl rfl rfl rfl rfl,hwc⟩) ?_
  replace HG:=zIo HG.out.drew
  replace HD:=zIo HD.out.drew
  have HW3 : Hid (w3.drew.cell? ⟨h,i,none⟩ = some (.int .u64 x)):=hwc
  clear hwc
  repeat ((first | (refine zAC (v := ?_) rfl ?_ ?_ ?_; rotate_left 1; rfl; focus (rintro wS ⟨⟨c0,c1,c2,c3,c4,c5,c6⟩,d0⟩; go_simp <;> with_reducible rfl)) | (refine zAB rfl ?_ ?_; rfl)); try simp only [Act.put,qset])
  refine zAH rfl (fun K hK=>?_)
  go_simp
  go_at_call 89
  refine (zGb _ k.t k.s k.so k.d k.who i x).mono ?_
  rintro r w4 ⟨x4,rfl,hO4,hb4,hx4⟩
  (try go_wp2_with fail)
  have HW4 : Hid (w4.cell? ⟨h,i,none⟩ = some (.int .u64 x)):=(hb4.cell (p:=⟨h,i,none⟩) (World.block_lt_of_cell? _ _ HW3.out)).trans HW3.out
  have HX4 : Hid (w1.heap.size ≤ x4 ∧ (∀ i,GeB b bs gs none i → i ≠ x4) ∧ (∀ i,Foot p c v1 i → i ≠ x4) ∧ h ≠ x4):=by
   refine ⟨by have:=HD.out.keep.size; have:=HHh.out; have hl : h < w3.drew.heap.size:=World.block_lt_of_cell? _ _ HW3.out; show _ ≤ _; omega,fun i hi e=>?_,fun i hi e=>?_,fun e=>?_⟩
   ·have:=(HG.out.lt i hi).2
    omega
   ·have:=(HD.out.mem.foot i hi).2
    omega
   ·have hl' : h < w3.drew.heap.size:=World.block_lt_of_cell? _ _ HW3.out
    omega
  have HXw : Hid (w.heap.size ≤ x4):=by have:=HD.out.keep.size; show _ ≤ _; omega
  replace HG:=zIo (HG.out.later hb4)
  replace HD:=zIo (HD.out.later hb4)
  have HO4:=zIo hO4
  clear hO4 hb4 hx4
  refine hK.out _ _ (⟨(HG.out.obj.ge).to k rfl rfl rfl rfl rfl rfl rfl,HW4.out⟩) (fun _=>?_)
  (try simp only [Act.put,qset])
  clear hK K
  repeat ((first | (refine zAC (v := ?_) rfl ?_ ?_ ?_; rotate_left 1; rfl; focus (rintro wS ⟨⟨c0,c1,c2,c3,c4,c5,c6⟩,d0⟩; go_simp <;> with_reducible rfl)) | (refine zAB rfl ?_ ?_; rfl)); try simp only [Act.put,qset])
  refine zAH rfl (fun K hK=>?_)
  go_simp
  have f8:=HG.out.obj.fz 8
  have c8:=HG.out.obj.at' 8 _ rfl
  (try go_simp)
  clear f8 c8
  have hk:=(Keep.refl (· = b) w4).own 8 (pt x4)
  have hxb : x4 ≠ b:=fun e=>HX4.out.2.1 b (.inl rfl) e.symm
  have HO5:=zIo (HO4.out.keep hk (fun e=>hxb e))
  have HG5 : Hid (IsGe base (w4.setCell ⟨b,8,none⟩ (pt x4)) b bs gs (some x4) { k with sn:=sn',ta:=some (ta0 k.t k.s k.so k.d k.who i x) }) :=
   ⟨HG.out.obj.set 8 (pt x4),HG.out.sn.keep hk (fun h=>HG.out.n1 h.symm) (fun h=>HG.out.n2 h.symm),.inr ⟨x4,ta0 k.t k.s k.so k.d k.who i x,rfl,rfl,HO5.out,by have:=HX4.out.1; have:=HD.out.size; have:=HXw.out; have:=HG.out.bb; have h9:=HT.out.bb; have h8:=HT.out.obj.lt; omega⟩,HG.out.bb,HG.out.n1,HG.out.n2,fun x hx=>by cases hx; exact ⟨hxb,fun e=>HX4.out.2.1 bs (.inr (.inl rfl)) e.symm,fun e=>HX4.out.2.1 gs (.inr (.inr (.inl rfl))) e.symm⟩⟩
  have HD5:=zIo (HD.out.own (hk.mono (fun i hi=>.inl hi)))
  have HW5 : Hid ((w4.setCell ⟨b,8,none⟩ (pt x4)).cell? ⟨h,i,none⟩ = some (.int .u64 x)):=by
   have hhb : h ≠ b:=fun e=>by
    have h1:=HHh.out.2
    have h2:=HT.out.obj.lt
    have h3:=HD.out.keep.size
    have h4 : w.heap.size ≤ w1.heap.size:=HIN1.out
    omega
   exact (World.cell?_setCell_other _ _ _ _ (fun e=>hhb (by injection e with e1; exact e1.symm))).trans HW4.out
  clear hk HO4 HG HD
  generalize w4.setCell ⟨b,8,none⟩ (pt x4) = w5 at HO5 HG5 HD5 HW5 ⊢
  refine hK.out _ _ (⟨(HG5.out.obj.ge).to k rfl rfl rfl rfl rfl rfl rfl,HW5.out⟩) (fun _=>?_)
  (try simp only [Act.put,qset])
  clear hK K
  refine zAJ ?_
  go_wp2
  go_end0
  refine ⟨rfl,(i : Int),HZ.out,v1,bs,gs,some x4,HD5.out, ?_, ?_, ?_⟩
  ·have e : k.read sn' (i : Int) = { k with sn:=sn',ta:=some (ta0 k.t k.s k.so k.d k.who i x) }:=by
    unfold Ge.read
    rw [if_neg (by rw [HN1.out]; exact fun h=>h rfl),if_neg (by omega),Int.toNat_natCast,Hx.out]
   rw [e]
   exact HG5.out
  ·rintro q (h1 | h1 | h1 | h1)
   ·exact .inl (.inl h1)
   ·exact .inl (.inr (.inl h1))
   ·exact .inl (.inr (.inr (.inl h1)))
   ·cases h1
    exact .inr HXw.out
  ·rintro q (h1 | h1 | h1 | h1)
   ·exact HD5.out.apart q (.inl h1)
   ·exact HD5.out.apart q (.inr (.inl h1))
   ·exact HD5.out.apart q (.inr (.inr (.inl h1)))
   ·cases h1
    exact fun hf=>HX4.out.2.2.1 _ hf rfl
end
end
section
section
variable (base : Nat) (w : World) (b bs gs p c x : Nat) (v : Value) (C : List Int) (L : List Ev) (k : Ge) (N : Nat)
theorem zHn {base : Nat} {w : World} {b bs gs x p c : Nat} {v : Value} {k : Ge} {a0 : Ta} (hT : IsGe base w b bs gs (some x) k) (ha : ∀ i,GeB b bs gs (some x) i → ¬ Foot p c v i) : ∀ i,(i = b ∨ i = bs ∨ i = gs) → ¬ (i = x ∨ Foot p c v i):=by
 rintro i hi (h | h)
 ·obtain ⟨n1,n2,n3⟩:=hT.n3 x rfl
  rcases hi with rfl | rfl | rfl
  ·exact n1 h.symm
  ·exact n2 h.symm
  ·exact n3 h.symm
 ·rcases hi with rfl | rfl | rfl
  ·exact ha _ (.inl rfl) h
  ·exact ha _ (.inr (.inl rfl)) h
  ·exact ha _ (.inr (.inr (.inl rfl))) h
theorem zEW {base : Nat} {w w1 : World} {b bs gs x p c : Nat} {v v1 : Value} {C1 : List Int} {L1 : List Ev} {k : Ge} {a' : Ta} (hT : IsGe base w b bs gs (some x) k) (ha : ∀ i,GeB b bs gs (some x) i → ¬ Foot p c v i)
  (hD : Does (· = x) base w w1 p c v v1 C1 L1) (hO : IsObj w1 x a'.list) : Does (GeB b bs gs (some x)) base w w1 p c v v1 C1 L1 ∧ IsGe base w1 b bs gs (some x) { k with ta:=some a' }:=by
 have hx : base ≤ x:=by
  rcases hT.ta with ⟨h1,_⟩ | ⟨x',a,h1,_,_,h4⟩
  ·cases h1
  ·cases h1
   exact h4
 have hap:=zHn (a0:=a') hT ha
 exact ⟨hD.wideG (fun i hi=>.inr (.inr (.inr (by rw [hi])))) ha (fun i hi=>(hT.lt i hi).2),hT.obj.keep hD.keep (hap b (.inl rfl)),hT.sn.keep hD.keep (hap bs (.inr (.inl rfl))) (hap gs (.inr (.inr rfl))),.inr ⟨x,a',rfl,rfl,hO,hx⟩,hT.bb,hT.n1,hT.n2,hT.n3⟩
theorem zIa (a' : Ta) (C1 : List Int) (L1 : List Ev) (h1 : a'.ph ≠ 1) (h2 : a'.ph ≠ 2) (hT : IsGe base w b bs gs (some x) k) (ha : ∀ i,GeB b bs gs (some x) i → ¬ Foot p c v i)
  (hin : Calls Tryz.prog 90 #[pt x,pt p] w (TaPost base w x p c v a'.list C1 L1 (.returned (i64 a'.ph)))) :
  Calls Tryz.prog 73 #[pt b,pt p] w fun r w'=>r = .returned (.tuple #[]) ∧ GePost base w b bs gs (some x) p c v (k.grab N a') C1 L1 w':=by
 have q1 : (a'.ph == 1) = false:=by simp [h1]
 have q2 : (a'.ph == 2) = false:=by simp [h2]
 have HE : Hid (k.grab N a' = { k with ta:=some a' }):=by show _ = _; unfold Ge.grab; rw [if_neg h1,if_neg h2]
 have HIN:=zIo hin
 have HT:=zIo hT
 have HA:=zIo ha
 have c8 : w.cell? ⟨b,8,none⟩ = some (pt x):=hT.obj.at' 8 _ rfl
 clear hT ha hin h1 h2
 go_enter Tryz.func73,Tryz.ntmps73
 go_wp2_with fail
 refine HIN.out.mono ?_
 rintro r w1 ⟨rfl,v1,hD,hO⟩
 obtain ⟨g1,g2⟩:=zEW HT.out HA.out hD hO
 have HD:=zIo g1
 have HG:=zIo g2
 clear hD hO g1 g2 c8
 go_wp2
 go_end0
 rw [HE.out]
 exact ⟨rfl,v1,bs,gs,some x,HD.out,HG.out,fun i hi=>.inl hi,HD.out.apart⟩
theorem zFo (a' : Ta) (C1 : List Int) (L1 : List Ev) (h1 : a'.ph = 1) (hT : IsGe base w b bs gs (some x) k) (ha : ∀ i,GeB b bs gs (some x) i → ¬ Foot p c v i)
  (hin : Calls Tryz.prog 90 #[pt x,pt p] w (TaPost base w x p c v a'.list C1 L1 (.returned (i64 a'.ph)))) :
  Calls Tryz.prog 73 #[pt b,pt p] w fun r w'=>r = .returned (.tuple #[]) ∧ GePost base w b bs gs (some x) p c v (k.grab N a') C1 L1 w':=by
 have q1 : (a'.ph == 1) = true:=by simp [h1]
 have HE : Hid (k.grab N a' = { k with ta:=some a',ph:=1 }):=by show _ = _; unfold Ge.grab; rw [if_pos h1]
 have HIN:=zIo hin
 have HT:=zIo hT
 have HA:=zIo ha
 have c8 : w.cell? ⟨b,8,none⟩ = some (pt x):=hT.obj.at' 8 _ rfl
 clear hT ha hin h1
 go_enter Tryz.func73,Tryz.ntmps73
 go_wp2_with fail
 refine HIN.out.mono ?_
 rintro r w1 ⟨rfl,v1,hD,hO⟩
 obtain ⟨g1,g2⟩:=zEW HT.out HA.out hD hO
 have HD:=zIo g1
 have HG:=zIo g2
 clear hD hO g1 g2 c8
 have c10:=HG.out.obj.at' 10 _ rfl
 have f10:=HG.out.obj.fz 10
 go_wp2
 go_end0
 rw [HE.out]
 have hk:=(Keep.refl (· = b) w1).own 10 (.int .i64 1)
 have hn:=HG.out.n3 x rfl
 refine ⟨rfl,v1,bs,gs,some x,HD.out.own (hk.mono (fun i hi=>.inl hi)),⟨HG.out.obj.set 10 (.int .i64 1),HG.out.sn.keep hk (fun h=>HG.out.n1 h.symm) (fun h=>HG.out.n2 h.symm), ?_,HG.out.bb,HG.out.n1,HG.out.n2,HG.out.n3⟩,fun i hi=>.inl hi,HD.out.apart⟩
 rcases HG.out.ta with ⟨e1,_⟩ | ⟨x',a,e1,e2,e3,e4⟩
 ·cases e1
 ·cases e1
  cases e2
  exact .inr ⟨x,a',rfl,rfl,e3.keep hk hn.1,e4⟩
theorem zGr (a' : Ta) (C1 : List Int) (L1 : List Ev) (h2 : a'.ph = 2) (hl : Lay k.t k.s N) (t0 : 0 ≤ k.tries) (t1 : k.tries ≤ 1000000) (hT : IsGe base w b bs gs (some x) k) (ha : ∀ i,GeB b bs gs (some x) i → ¬ Foot p c v i) (hb : base ≤ w.heap.size)
  (hin : Calls Tryz.prog 90 #[pt x,pt p] w (TaPost base w x p c v a'.list C1 L1 (.returned (i64 a'.ph)))) :
  Calls Tryz.prog 73 #[pt b,pt p] w fun r w'=>r = .returned (.tuple #[]) ∧ GePost base w b bs gs (some x) p c v (k.grab N a') C1 L1 w':=by
 have q1 : (a'.ph == 1) = false:=by simp [h2]
 have q2 : (a'.ph == 2) = true:=by simp [h2]
 have HE : Hid (k.grab N a' = { k with tries:=k.tries + 1,sn:=sn0 k.t k.s k.so k.d k.who (IntKind.u64.wrap k.start % N) N,ta:=none }):=by show _ = _; unfold Ge.grab; rw [if_neg (by omega),if_pos h2]
 have hwr : wrap64 (k.tries + 1) = k.tries + 1:=by unfold wrap64; omega
 have HIN:=zIo hin
 have HT:=zIo hT
 have HA:=zIo ha
 have c8 : w.cell? ⟨b,8,none⟩ = some (pt x):=hT.obj.at' 8 _ rfl
 clear hT ha hin h2
 go_enter Tryz.func73,Tryz.ntmps73
 go_wp2_with fail
 refine HIN.out.mono ?_
 rintro r w1 ⟨rfl,v1,hD,hO⟩
 obtain ⟨g1,g2⟩:=zEW HT.out HA.out hD hO
 have HD:=zIo g1
 have HG:=zIo g2
 have HW1 : Hid (w.heap.size ≤ w1.heap.size):=hD.keep.size
 clear hD hO g1 g2 c8
 have c9:=HG.out.obj.at' 9 _ rfl
 have f9:=HG.out.obj.fz 9
 go_wp2_with fail
 have hk:=(Keep.refl (· = b) w1).own 9 (.int .i64 (k.tries + 1))
 have hn:=HG.out.n3 x rfl
 have HO2 : Hid (IsObj (w1.setCell ⟨b,9,none⟩ (.int .i64 (k.tries + 1))) b (({ k with tries:=k.tries + 1 } : Ge).list bs (some x))):=HG.out.obj.set 9 (.int .i64 (k.tries + 1))
 have HS2:=zIo (HG.out.sn.keep hk (fun h=>HG.out.n1 h.symm) (fun h=>HG.out.n2 h.symm))
 have HD2:=zIo (HD.out.own (hk.mono (fun i hi=>.inl hi)))
 have Hlt : Hid (∀ i,GeB b bs gs (some x) i → i < w1.heap.size):=fun i hi=>(HG.out.lt i hi).2
 have HN : Hid (b ≠ bs ∧ b ≠ gs ∧ base ≤ b):=⟨HG.out.n1,HG.out.n2,HG.out.bb⟩
 have HSZ : Hid (w1.heap.size ≤ (w1.setCell ⟨b,9,none⟩ (.int .i64 (k.tries + 1))).heap.size):=by show _ ≤ _; simp [World.setCell]
 clear hk hn c9 f9 HG HD
 generalize w1.setCell ⟨b,9,none⟩ (.int .i64 (k.tries + 1)) = w2 at HO2 HS2 HD2 HSZ ⊢
 refine zAD ((fun w'=>AtGe w' b k)) ((0,true) :: (1,true) :: (2,true) :: (3,true) :: (4,true) :: (5,true) :: (6,true) :: (7,true) :: (8,true) :: (9,true) :: (10,true) :: (11,true) :: (12,true) :: (13,true) :: (14,false) :: (15,true) :: (16,true) :: (17,false) :: (18,true) :: (19,true) :: (20,false) :: []) (by kernel_rfl) (by kernel_rfl) (by kernel_rfl) (by decide) (fun _ _ _ _ _ h=>h) ((HO2.out.drew.ge).to k rfl rfl rfl rfl rfl rfl rfl) ?_
 replace HO2:=zIo HO2.out.drew
 replace HD2:=zIo HD2.out.drew
 have HSZ2 : Hid (w1.heap.size ≤ w2.drew.heap.size):=HSZ.out
 repeat ((first | (refine zAC (v := ?_) rfl ?_ ?_ ?_; rotate_left 1; rfl; focus (rintro wS ⟨c0,c1,c2,c3,c4,c5,c6⟩; go_simp <;> with_reducible rfl)) | (refine zAB rfl ?_ ?_; rfl)); try simp only [Act.put,qset])
 refine zAH rfl (fun K hK=>?_)
 go_simp
 go_at_call 49
 refine (zDh base _ k.t k.s k.so k.d k.who k.start N N hl rfl HD2.out.size).mono ?_
 rintro r w3 ⟨y,g,rfl,hS3,hb3,hy,hg⟩
 (try go_wp2_with fail)
 replace HO2:=zIo (HO2.out.later hb3)
 have HD3:=zIo (HD2.out.later hb3)
 have HS3:=zIo hS3
 have HNW : Hid (w1.heap.size ≤ y ∧ w1.heap.size ≤ g ∧ (∀ i,Foot p c v1 i → i ≠ y ∧ i ≠ g)):=by
  refine ⟨by have:=HSZ2.out; omega,by have:=HSZ2.out; omega,fun i hi=>⟨fun e=>?_,fun e=>?_⟩⟩
  ·have:=(HD2.out.mem.foot i hi).2
   omega
  ·have:=(HD2.out.mem.foot i hi).2
   omega
 clear hS3 hb3 hy hg HD2 HS2
 refine hK.out _ _ ((HO2.out.ge).to k rfl rfl rfl rfl rfl rfl rfl) (fun _=>?_)
 (try simp only [Act.put,qset])
 clear hK K
 repeat ((first | (refine zAC (v := ?_) rfl ?_ ?_ ?_; rotate_left 1; rfl; focus (rintro wS ⟨c0,c1,c2,c3,c4,c5,c6⟩; go_simp <;> with_reducible rfl)) | (refine zAB rfl ?_ ?_; rfl)); try simp only [Act.put,qset])
 refine zAH rfl (fun K hK=>?_)
 go_simp
 have c7:=HO2.out.at' 7 _ rfl
 have f7:=HO2.out.fz 7
 (try go_simp)
 clear c7 f7
 have hk7:=(Keep.refl (· = b) w3).own 7 (pt y)
 have HO4 : Hid (IsObj (w3.setCell ⟨b,7,none⟩ (pt y)) b (({ k with tries:=k.tries + 1 } : Ge).list y (some x))):=HO2.out.set 7 (pt y)
 have hyb : y ≠ b ∧ g ≠ b:=by
  have h1:=Hlt.out b (.inl rfl)
  have h2:=HNW.out
  omega
 have HS4:=zIo (HS3.out.keep hk7 (fun e=>hyb.1 e) (fun e=>hyb.2 e))
 have HD4:=zIo (HD3.out.own (hk7.mono (fun i hi=>.inl hi)))
 clear hk7 HO2 HS3 HD3
 generalize w3.setCell ⟨b,7,none⟩ (pt y) = w4 at HO4 HS4 HD4 ⊢
 refine hK.out _ _ ((HO4.out.ge).to k rfl rfl rfl rfl rfl rfl rfl) (fun _=>?_)
 (try simp only [Act.put,qset])
 clear hK K
 repeat ((first | (refine zAC (v := ?_) rfl ?_ ?_ ?_; rotate_left 1; rfl; focus (rintro wS ⟨c0,c1,c2,c3,c4,c5,c6⟩; go_simp <;> with_reducible rfl)) | (refine zAB rfl ?_ ?_; rfl)); try simp only [Act.put,qset])
 refine zAH rfl (fun K hK=>?_)
 go_simp
 have c8 : w4.cell? ⟨b,8,none⟩ = some (pt x):=HO4.out.at' 8 _ rfl
 have f8:=HO4.out.fz 8
 (try go_simp)
 clear c8 f8
 have hk8:=(Keep.refl (· = b) w4).own 8 (.pointer none)
 have HO5 : Hid (IsObj (w4.setCell ⟨b,8,none⟩ (.pointer none)) b (({ k with tries:=k.tries + 1 } : Ge).list y none)):=HO4.out.set 8 (.pointer none)
 have HS5:=zIo (HS4.out.keep hk8 (fun e=>hyb.1 e) (fun e=>hyb.2 e))
 have HD5:=zIo (HD4.out.own (hk8.mono (fun i hi=>.inl hi)))
 clear hk8 HO4 HS4 HD4
 generalize w4.setCell ⟨b,8,none⟩ (.pointer none) = w5 at HO5 HS5 HD5 ⊢
 refine hK.out _ _ ((HO5.out.ge).to k rfl rfl rfl rfl rfl rfl rfl) (fun _=>?_)
 (try simp only [Act.put,qset])
 clear hK K
 refine zAJ ?_
 clear hwr
 go_wp2
 go_end0
 rw [HE.out]
 have hs1:=HW1.out
 refine ⟨rfl,v1,y,g,none,HD5.out,⟨HO5.out,HS5.out,.inl ⟨rfl,rfl⟩,HN.out.2.2,fun e=>hyb.1 e.symm,fun e=>hyb.2 e.symm,fun _ h=>by cases h⟩, ?_, ?_⟩
 ·rintro i (h | h | h | h)
  ·exact .inl (.inl h)
  ·exact .inr (by have:=HNW.out.1; omega)
  ·exact .inr (by have:=HNW.out.2.1; omega)
  ·cases h
 ·rintro i (h | h | h | h)
  ·exact HD5.out.apart i (.inl h)
  ·exact fun hf=>(HNW.out.2.2 i hf).1 h
  ·exact fun hf=>(HNW.out.2.2 i hf).2 h
  ·cases h
end
end
section
def Ge.step (k : Ge) (N hz : Nat) (C : List Int) (z : Int) : Ge :=
 if k.ph ≠ 0 then k else match k.ta with
  | none=>k.read (k.sn.step C) z
  | some a=>k.grab N (a.go a.slot.toNat (N + a.slot.toNat) C)
def Ge.cells (k : Ge) (N hz : Nat) (C : List Int) : List Int :=
 if k.ph ≠ 0 then C else match k.ta with
  | none=>C
  | some a=>a.cells a.slot.toNat hz C
def Ge.ev (k : Ge) (N hz : Nat) (C : List Int) : List Ev :=
 if k.ph ≠ 0 then [] else match k.ta with
  | none=>k.sn.ev C
  | some a=>a.ev a.slot.toNat (N + a.slot.toNat) hz C
def Ge.ask (k : Ge) (C : List Int) (z : Int) : Prop:=k.ph = 0 → k.ta = none → (k.sn.step C).ph = 1 → IsEnd (k.sn.step C).X k.e z
structure Ge.Ok (k : Ge) (N hz : Nat) (C : List Int) : Prop where
 lay : Lay k.t k.s N
 len : (C.length : Int) = 2 * N + 2 * k.t
 hzz : (hz : Int) = 2 * N + k.who
 w0 : 0 ≤ k.who
 w1 : k.who < k.t
 e : k.e = 0 ∨ k.e = 1
 t0 : 0 ≤ k.tries
 t1 : k.tries ≤ 1000000
 sN : k.sn.N = N
 sX : ∀ i,0 ≤ k.sn.X.getD i 0 ∧ k.sn.X.getD i 0 ≤ 18446744073709551615
 sn : k.ph = 0 → k.ta = none → k.sn.Ok N C ∧ k.sn.ph = 0
 ta : k.ph = 0 → ∀ a,k.ta = some a → a.Ok N a.slot.toNat (N + a.slot.toNat) hz C ∧ a.ph = 0
theorem zIB {k : Sn} {C : List Int} (hX : ∀ i,0 ≤ k.X.getD i 0 ∧ k.X.getD i 0 ≤ 18446744073709551615) (hC : ∀ i,0 ≤ C.getD i 0 ∧ C.getD i 0 ≤ 18446744073709551615) : (k.step C).N = k.N ∧ ∀ i,0 ≤ (k.step C).X.getD i 0 ∧ (k.step C).X.getD i 0 ≤ 18446744073709551615:=by
 have hp : ∀ i,0 ≤ (k.X.set k.slot (C.getD k.slot 0)).getD i 0 ∧ (k.X.set k.slot (C.getD k.slot 0)).getD i 0 ≤ 18446744073709551615:=fun i=>by
  rw [zAs]
  split
  ·exact hC _
  ·exact hX i
 unfold Sn.step
 split
 ·split
  ·exact ⟨rfl,hp⟩
  ·exact ⟨rfl,hp⟩
 ·exact ⟨rfl,hX⟩
theorem IsMem.fit {base : Nat} {w : World} {p c : Nat} {v : Value} {C : List Int} {L : List Ev} (h : IsMem base w p c v C L) : ∀ j,0 ≤ C.getD j 0 ∧ C.getD j 0 ≤ 18446744073709551615:=fun j=>by
 by_cases hj : j < C.length
 ·exact h.numAt (zDB hj)
 ·rw [List.getD_eq_getElem?_getD,List.getElem?_eq_none (by omega)]
  exact ⟨Int.le_refl _,by decide⟩
section
variable (base : Nat) (w : World) (b bs gs p c : Nat) (bt : Option Nat) (v : Value) (C : List Int) (L : List Ev) (k : Ge) (N hz : Nat)
theorem zG5 (hp : k.ph ≠ 0) (hT : IsGe base w b bs gs bt k) (hM : IsMem base w p c v C L) (ha : ∀ i,GeB b bs gs bt i → ¬ Foot p c v i) (hb : base ≤ w.heap.size) :
  Calls Tryz.prog 51 #[pt b,pt p] w fun r w'=>r = .returned (i64 k.ph) ∧ GePost base w b bs gs bt p c v k C L w':=by
 have qp : (k.ph != 0) = true:=by simp [hp]
 have HS:=zIo (Does.refl (B:=GeB b bs gs bt) hM ha hb)
 have HT:=zIo hT
 have c10:=hT.obj.at' 10 _ rfl
 clear hT hM hp
 go_enter Tryz.func51,Tryz.ntmps51
 go_wp2
 go_ret
 exact ⟨rfl,v,bs,gs,bt,HS.out,HT.out,fun i hi=>.inl hi,ha⟩
theorem zEr (Z : Ge → Prop) (C1 : List Int) (L1 : List Ev) (hp : k.ph = 0) (hta : bt = none) (hT : IsGe base w b bs gs bt k)
  (hin : Calls Tryz.prog 72 #[pt b,pt p] w fun r w'=>r = .returned (.tuple #[]) ∧ ∃ k',Z k' ∧ GePost base w b bs gs bt p c v k' C1 L1 w') :
  Calls Tryz.prog 51 #[pt b,pt p] w fun r w' => ∃ k',Z k' ∧ r = .returned (i64 k'.ph) ∧ GePost base w b bs gs bt p c v k' C1 L1 w':=by
 have qp : (k.ph != 0) = false:=by simp [hp]
 have HIN:=zIo hin
 have c10:=hT.obj.at' 10 _ rfl
 have c8 : w.cell? ⟨b,8,none⟩ = some (.pointer none):=by have:=hT.obj.at' 8 _ rfl; rw [hta] at this; exact this
 clear hT hp hin
 go_enter Tryz.func51,Tryz.ntmps51
 go_wp2_with fail
 refine HIN.out.mono ?_
 rintro r w1 ⟨rfl,k',hZ,v',bs',gs',bt',hD,hG,hF,hA⟩
 have d10:=hG.obj.at' 10 _ rfl
 have HZ:=zIo hZ
 have HR : Hid (GePost base w b bs gs bt p c v k' C1 L1 w1):=⟨v',bs',gs',bt',hD,hG,hF,hA⟩
 clear c10 c8 hZ hD hG hF hA
 go_wp2
 go_ret
 exact ⟨k',HZ.out,rfl,HR.out⟩
theorem zHa (Z : Ge → Prop) (x : Nat) (C1 : List Int) (L1 : List Ev) (hp : k.ph = 0) (hta : bt = some x) (hT : IsGe base w b bs gs bt k)
  (hin : Calls Tryz.prog 73 #[pt b,pt p] w fun r w'=>r = .returned (.tuple #[]) ∧ ∃ k',Z k' ∧ GePost base w b bs gs bt p c v k' C1 L1 w') :
  Calls Tryz.prog 51 #[pt b,pt p] w fun r w' => ∃ k',Z k' ∧ r = .returned (i64 k'.ph) ∧ GePost base w b bs gs bt p c v k' C1 L1 w':=by
 have qp : (k.ph != 0) = false:=by simp [hp]
 have HIN:=zIo hin
 have c10:=hT.obj.at' 10 _ rfl
 have c8 : w.cell? ⟨b,8,none⟩ = some (pt x):=by have:=hT.obj.at' 8 _ rfl; rw [hta] at this; exact this
 clear hT hp hin
 go_enter Tryz.func51,Tryz.ntmps51
 go_wp2_with fail
 refine HIN.out.mono ?_
 rintro r w1 ⟨rfl,k',hZ,v',bs',gs',bt',hD,hG,hF,hA⟩
 have d10:=hG.obj.at' 10 _ rfl
 have HZ:=zIo hZ
 have HR : Hid (GePost base w b bs gs bt p c v k' C1 L1 w1):=⟨v',bs',gs',bt',hD,hG,hF,hA⟩
 clear c10 c8 hZ hD hG hF hA
 go_wp2
 go_ret
 exact ⟨k',HZ.out,rfl,HR.out⟩
theorem zFh (hk : k.Ok N hz C) (hT : IsGe base w b bs gs bt k) (hM : IsMem base w p c v C L) (ha : ∀ i,GeB b bs gs bt i → ¬ Foot p c v i) (hb : base ≤ w.heap.size) (hL : L.length < 1000000000) :
  Calls Tryz.prog 51 #[pt b,pt p] w fun r w' => ∃ z,k.ask C z ∧ r = .returned (i64 (k.step N hz C z).ph) ∧ GePost base w b bs gs bt p c v (k.step N hz C z) (k.cells N hz C) (L ++ k.ev N hz C) w':=by
 have hN1:=hk.lay.n1
 have hN2:=hk.lay.n2
 have hN3:=hk.lay.t1
 by_cases hp : k.ph ≠ 0
 ·refine (zG5 base w b bs gs p c bt v C L k hp hT hM ha hb).mono ?_
  rintro r w' ⟨h1,h2⟩
  have e1 : ∀ z,k.step N hz C z = k:=fun z=>if_pos hp
  have e2 : k.cells N hz C = C:=if_pos hp
  have e3 : k.ev N hz C = []:=if_pos hp
  refine ⟨0,fun h=>absurd h hp, ?_, ?_⟩
  ·rw [e1]
   exact h1
  ·rw [e1,e2,e3,List.append_nil]
   exact h2
 ·have hp0 : k.ph = 0:=Classical.not_not.1 hp
  rcases hT.ta with ⟨h1,h2⟩ | ⟨x,a,h1,h2,h3,h4⟩
  ·obtain ⟨hs,hsp⟩:=hk.sn hp0 h2
   have e1 : ∀ z,k.step N hz C z = k.read (k.sn.step C) z:=fun z=>by unfold Ge.step; rw [if_neg hp,h2]
   have e2 : k.cells N hz C = C:=by unfold Ge.cells; rw [if_neg hp,h2]
   have e3 : k.ev N hz C = k.sn.ev C:=by unfold Ge.ev; rw [if_neg hp,h2]
   have hin:=zFB base w bs gs p c v C L k.sn N hs hT.sn hM (fun i hi=>by
    rcases hi with rfl | rfl
    ·exact ha _ (.inr (.inl rfl))
    ·exact ha _ (.inr (.inr (.inl rfl)))) hb hL
   obtain ⟨x1,x2⟩:=zIB hk.sX hM.fit
   rw [e2,e3]
   by_cases hd : (k.sn.step C).ph = 1
   ·have hr:=zFp base w b bs gs p c bt v C k N (k.sn.step C) (L ++ k.sn.ev C) hd (x1.trans hk.sN) (by omega) (by omega) hk.e x2 h2 hT ha hin
    refine (zEr base w b bs gs p c bt v k (fun k' => ∃ z,k.ask C z ∧ k' = k.step N hz C z) C (L ++ k.sn.ev C) hp0 h1 hT (hr.mono ?_)).mono ?_
    ·rintro r w' ⟨g1,z,g2,g3⟩
     exact ⟨g1,k.read (k.sn.step C) z,⟨z,fun _ _ _=>g2,(e1 z).symm⟩,g3⟩
    ·rintro r w' ⟨k',⟨z,g1,rfl⟩,g2,g3⟩
     exact ⟨z,g1,g2,g3⟩
   ·have hr:=zGB base w b bs gs p c bt v C k (k.sn.step C) (L ++ k.sn.ev C) hd hT ha hin
    refine (zEr base w b bs gs p c bt v k (fun k'=>k' = k.step N hz C 0) C (L ++ k.sn.ev C) hp0 h1 hT (hr.mono ?_)).mono ?_
    ·rintro r w' ⟨g1,g3⟩
     exact ⟨g1, { k with sn:=k.sn.step C },by rw [e1]; unfold Ge.read; rw [if_pos hd],g3⟩
    ·rintro r w' ⟨k',rfl,g2,g3⟩
     exact ⟨0,fun _ _ h=>absurd h hd,g2,g3⟩
  ·obtain ⟨hok,hap⟩:=hk.ta hp0 a h2
   have e1 : ∀ z,k.step N hz C z = k.grab N (a.go a.slot.toNat (N + a.slot.toNat) C):=fun z=>by unfold Ge.step; rw [if_neg hp,h2]
   have e2 : k.cells N hz C = a.cells a.slot.toNat hz C:=by unfold Ge.cells; rw [if_neg hp,h2]
   have e3 : k.ev N hz C = a.ev a.slot.toNat (N + a.slot.toNat) hz C:=by unfold Ge.ev; rw [if_neg hp,h2]
   have hin:=zFC base w x p c v C L a N a.slot.toNat (N + a.slot.toNat) hz hok h3 hM (ha x (.inr (.inr (.inr h1)))) hb hL
   rw [e2,e3]
   subst h1
   have hr : Calls Tryz.prog 73 #[pt b,pt p] w fun r w'=>r = .returned (.tuple #[]) ∧ GePost base w b bs gs (some x) p c v (k.grab N (a.go a.slot.toNat (N + a.slot.toNat) C)) (a.cells a.slot.toNat hz C) (L ++ a.ev a.slot.toNat (N + a.slot.toNat) hz C) w':=by
    by_cases d1 : (a.go a.slot.toNat (N + a.slot.toNat) C).ph = 1
    ·exact zFo base w b bs gs p c x v k N _ _ _ d1 hT ha hin
    ·by_cases d2 : (a.go a.slot.toNat (N + a.slot.toNat) C).ph = 2
     ·exact zGr base w b bs gs p c x v k N _ _ _ d2 hk.lay hk.t0 hk.t1 hT ha hb hin
     ·exact zIa base w b bs gs p c x v k N _ _ _ d1 d2 hT ha hin
   refine (zHa base w b bs gs p c (some x) v k (fun k'=>k' = k.step N hz C 0) x (a.cells a.slot.toNat hz C) (L ++ a.ev a.slot.toNat (N + a.slot.toNat) hz C) hp0 rfl hT (hr.mono ?_)).mono ?_
   ·rintro r w' ⟨g1,g3⟩
    exact ⟨g1,_,(e1 0).symm,g3⟩
   ·rintro r w' ⟨k',rfl,g2,g3⟩
    exact ⟨0,(fun _ h=>by rw [h2] at h; cases h),g2,g3⟩
theorem zES (hT : IsGe base w b bs gs bt k) : Calls Tryz.prog 138 #[pt b] w fun r w'=>r = .returned (i64 k.ph) ∧ w = w':=by
 have c10:=hT.obj.at' 10 _ rfl
 go_enter Tryz.func138,Tryz.ntmps138
 go_wp2
 go_ret
 exact ⟨rfl,rfl⟩
def Ge.val (k : Ge) : Int:=if k.ph = 1 then match k.ta with | none=>0 | some a=>if a.ph = 1 then a.value else 0 else 0
theorem zED (hT : IsGe base w b bs gs bt k) (h1 : k.ph = 1 → k.ta ≠ none) : Calls Tryz.prog 55 #[pt b] w fun r w'=>r = .returned (u64 k.val) ∧ w = w':=by
 have c10:=hT.obj.at' 10 _ rfl
 unfold Ge.val
 by_cases h : k.ph = 1
 ·rw [if_pos h]
  have q : (k.ph != 1) = false:=by simp [h]
  rcases hT.ta with ⟨e1,e2⟩ | ⟨x,a,e1,e2,e3,e4⟩
  ·exact absurd e2 (h1 h)
  ·have c8 : w.cell? ⟨b,8,none⟩ = some (pt x):=by have:=hT.obj.at' 8 _ rfl; rw [e1] at this; exact this
   have HO:=zIo e3
   rw [e2]
   obtain ⟨z,hz⟩ : ∃ z,(if a.ph = 1 then a.value else 0) = z:=⟨_,rfl⟩
   have HZ:=zIo hz
   simp only [hz]
   clear h h1 hT e1 e2 e3 hz
   go_enter Tryz.func55,Tryz.ntmps55
   go_wp2_with fail
   refine (zFV z HZ.out HO.out).mono ?_
   rintro r w' ⟨rfl,rfl⟩
   go_wp2
   go_ret
   exact ⟨rfl,rfl⟩
 ·rw [if_neg h]
  have q : (k.ph != 1) = true:=by simp [h]
  clear h h1 hT
  go_enter Tryz.func55,Tryz.ntmps55
  go_wp2
  go_ret
  exact ⟨rfl,rfl⟩
def ge0 (t s so d who e start : Int) (N : Nat) : Ge:=⟨t,s,so,d,who,e,start,0,0,sn0 t s so d who (IntKind.u64.wrap start % N) N,none⟩
theorem zGO (t s so d who e start : Int) (hl : Lay t s N) (hb : base ≤ w.heap.size) :
  Calls Tryz.prog 39 #[cf t s so d,i64 who,i64 e,i64 start] w fun r w' => ∃ b bs gs,r = .returned (pt b) ∧ IsGe base w' b bs gs none (ge0 t s so d who e start N) ∧ Below w.heap.size w w' ∧ ∀ i,GeB b bs gs none i → w.heap.size ≤ i:=by
 have HA : Hid (AtC (w.alloc (.cells #[.int .i64 t,.int .i64 s,.int .i64 so,.int .i64 d] 26)).drew w.heap.size t s so d):=(AtC.made w t s so d).later (n:=w.heap.size + 1) (Below.refl _ _).drew (by omega)
 have HB : Hid (Below w.heap.size w (w.alloc (.cells #[.int .i64 t,.int .i64 s,.int .i64 so,.int .i64 d] 26)).drew):=(zAA (Below.refl _ _) _).drew
 have hs0 : w.heap.size + 1 = (w.alloc (.cells #[.int .i64 t,.int .i64 s,.int .i64 so,.int .i64 d] 26)).heap.size:=by simp
 have Hs : Hid (w.heap.size + 1 = (w.alloc (.cells #[.int .i64 t,.int .i64 s,.int .i64 so,.int .i64 d] 26)).drew.heap.size):=hs0
 clear hs0
 go_enter Tryz.func39,Tryz.ntmps39
 go_wp2_with fail
 refine zAD ((fun w'=>AtC w' w.heap.size t s so d)) ((0,true) :: (1,true) :: (2,true) :: (3,true) :: (4,true) :: (5,true) :: (6,true) :: (7,false) :: (8,true) :: (9,false) :: (10,true) :: []) (by kernel_rfl) (by kernel_rfl) (by kernel_rfl) (by decide) (fun _ _ _ _ _ h=>h) (HA.out) ?_
 generalize (w.alloc (.cells #[.int .i64 t,.int .i64 s,.int .i64 so,.int .i64 d] 26)).drew = wA at HA HB Hs ⊢
 repeat ((first | (refine zAC (v := ?_) rfl ?_ ?_ ?_; rotate_left 1; rfl; focus (rintro wS ⟨c0,c1,c2,c3⟩; go_simp <;> with_reducible rfl)) | (refine zAB rfl ?_ ?_; rfl)); try simp only [Act.put,qset])
 refine zAH rfl (fun K hK=>?_)
 go_simp
 go_at_call 49
 refine (zDh base _ t s so d who start N N hl rfl (by have:=Hs.out; omega)).mono ?_
 rintro r wB ⟨bs,gs,rfl,hO1,hb1,hs1,hs2⟩
 (try go_wp2_with fail)
 replace HA:=zIo (HA.out.later hb1 (by have:=Hs.out; omega))
 have HO1:=zIo hO1
 have HB1:=zIo hb1
 have Hs1:=zIo hs1
 have Hs2:=zIo hs2
 have Hlt : Hid (bs < wB.heap.size ∧ gs < wB.heap.size):=⟨hO1.obj.lt,hO1.gb.2⟩
 clear hO1 hb1 hs1 hs2
 refine hK.out _ _ (HA.out) (fun _=>?_)
 (try simp only [Act.put,qset])
 clear hK K
 repeat ((first | (refine zAC (v := ?_) rfl ?_ ?_ ?_; rotate_left 1; rfl; focus (rintro wS ⟨c0,c1,c2,c3⟩; go_simp <;> with_reducible rfl)) | (refine zAB rfl ?_ ?_; rfl)); try simp only [Act.put,qset])
 refine zAH rfl (fun K hK=>?_)
 go_simp
 have hO3 : IsObj (wB.alloc (.cells #[.int .i64 t,.int .i64 s,.int .i64 so,.int .i64 d,.int .i64 who,.int .i64 e,.int .i64 start,pt bs,.pointer none,.int .i64 0,.int .i64 0] 126)) wB.heap.size ((ge0 t s so d who e start N).list bs none):=IsObj.made wB ((ge0 t s so d who e start N).list bs none) 126
 have HO3:=zIo hO3
 have hb3:=zAA (Below.refl wB.heap.size wB) (.cells #[.int .i64 t,.int .i64 s,.int .i64 so,.int .i64 d,.int .i64 who,.int .i64 e,.int .i64 start,pt bs,.pointer none,.int .i64 0,.int .i64 0] 126)
 have HB3:=zIo hb3
 replace HA:=zIo (HA.out.later hb3 (by have:=Hs.out; have:=HB1.out.size; omega))
 clear hb3 hO3
 refine hK.out _ _ (HA.out) (fun _=>?_)
 (try simp only [Act.put,qset])
 clear hK K
 repeat ((first | (refine zAC (v := ?_) rfl ?_ ?_ ?_; rotate_left 1; rfl; focus (rintro wS ⟨c0,c1,c2,c3⟩; go_simp <;> with_reducible rfl)) | (refine zAB rfl ?_ ?_; rfl)); try simp only [Act.put,qset])
 refine zAJ ?_
 go_wp2
 go_ret
 have e0:=HB1.out.size
 have e4:=Hs.out
 have e5:=Hs1.out
 have e6:=Hs2.out
 have e7:=Hlt.out
 refine ⟨wB.heap.size,bs,gs,rfl,⟨HO3.out,HO1.out.later HB3.out,.inl ⟨rfl,rfl⟩,by omega,by omega,by omega,fun _ h=>by cases h⟩,zAU HB.out (zAU HB1.out HB3.out e0) (by omega), ?_⟩
 rintro i (rfl | rfl | rfl | h)
 ·omega
 ·omega
 ·omega
 ·cases h
end
end
section
theorem gzeros (n j : Nat) : (List.replicate n (0 : Int)).getD j 0 = 0:=by
 rw [List.getD_eq_getElem?_getD,List.getElem?_replicate]
 split <;> rfl
section
variable {W w w' : World} {l : List Thing}
theorem Hold.turn3 (h : Hold W w l) (i j : Nat) {A A' B B' : Thing} (hne : i ≠ j) (hi : l[i]? = some A) (hj : l[j]? = some B) (k : Keep (fun q=>B.F q ∨ A.F q) w w') (okA : A'.Ok W.heap.size) (okB : B'.Ok W.heap.size) (hA : A'.P w') (hB : B'.P w')
  (hFA : ∀ q,A'.F q → A.F q ∨ w.heap.size ≤ q) (hFB : ∀ q,B'.F q → B.F q ∨ w.heap.size ≤ q) (hAB : ∀ q,A'.F q → ¬ B'.F q) : Hold W w' ((l.set i A').set j B'):=by
 have hj' : (l.set i A')[j]? = some B:=by rw [List.getElem?_set,if_neg hne]; exact hj
 have hltA:=fun q=>(h.ok i A hi).lt w q (h.has i A hi)
 have hltB:=fun q=>(h.ok j B hj).lt w q (h.has j B hj)
 have hold : ∀ (e : Nat) (E : Thing),l[e]? = some E → i ≠ e → j ≠ e → E.P w':=fun e E he h1 h2=>(h.ok e E he).keep w w' _ (h.has e E he) k (fun q hq hc=>hc.elim (h.apart e j E B he hj (fun x=>h2 x.symm) q hq) (h.apart e i E A he hi (fun x=>h1 x.symm) q hq))
 have cases2 : ∀ (e : Nat) (E : Thing),((l.set i A').set j B')[e]? = some E → (e = j ∧ E = B') ∨ (e = i ∧ E = A') ∨ (i ≠ e ∧ j ≠ e ∧ l[e]? = some E):=by
  intro e E he
  rcases zAf hj' he with ⟨h1,rfl⟩ | ⟨h1,he⟩
  ·exact .inl ⟨h1.symm,rfl⟩
  ·rcases zAf hi he with ⟨h2,rfl⟩ | ⟨h2,he⟩
   ·exact .inr (.inl ⟨h2.symm,rfl⟩)
   ·exact .inr (.inr ⟨h2,h1,he⟩)
 have AE : ∀ (e : Nat) (E : Thing) (q : Nat),l[e]? = some E → i ≠ e → E.F q → A'.F q → False:=fun e E q he h1 h2 h3=>by
  rcases hFA q h3 with h4 | h4
  ·exact h.apart i e A E hi he h1 q h4 h2
  ·have:=((h.ok e E he).lt w q (h.has e E he) h2).2
   omega
 have BE : ∀ (e : Nat) (E : Thing) (q : Nat),l[e]? = some E → j ≠ e → E.F q → B'.F q → False:=fun e E q he h1 h2 h3=>by
  rcases hFB q h3 with h4 | h4
  ·exact h.apart j e B E hj he h1 q h4 h2
  ·have:=((h.ok e E he).lt w q (h.has e E he) h2).2
   omega
 refine ⟨Nat.le_trans h.size k.size,zAw h.below k h.size (fun q hq=>hq.elim (fun h=>(hltB q h).1) (fun h=>(hltA q h).1)),fun e E he=>?_,fun e E he=>?_,fun e f E G he hf hef q hq hq'=>?_⟩
 ·rcases cases2 e E he with ⟨_,rfl⟩ | ⟨_,rfl⟩ | ⟨_,_,he⟩
  ·exact okB
  ·exact okA
  ·exact h.ok e E he
 ·rcases cases2 e E he with ⟨_,rfl⟩ | ⟨_,rfl⟩ | ⟨h1,h2,he⟩
  ·exact hB
  ·exact hA
  ·exact hold e E he h1 h2
 ·rcases cases2 e E he with ⟨h1,rfl⟩ | ⟨h1,rfl⟩ | ⟨h1,h2,he1⟩
  ·rcases cases2 f G hf with ⟨h3,rfl⟩ | ⟨h3,rfl⟩ | ⟨h3,h4,hf1⟩
   ·omega
   ·exact hAB q hq' hq
   ·exact BE f G q hf1 h4 hq' hq
  ·rcases cases2 f G hf with ⟨h3,rfl⟩ | ⟨h3,rfl⟩ | ⟨h3,h4,hf1⟩
   ·exact hAB q hq hq'
   ·omega
   ·exact AE f G q hf1 h3 hq' hq
  ·rcases cases2 f G hf with ⟨h3,rfl⟩ | ⟨h3,rfl⟩ | ⟨h3,h4,hf1⟩
   ·exact BE e E q he1 h2 hq hq'
   ·exact AE e E q he1 h1 hq hq'
   ·exact h.apart e f E G he1 hf1 hef q hq hq'
end
def tGe (base b bs gs : Nat) (bt : Option Nat) (k : Ge) : Thing:=⟨fun w=>IsGe base w b bs gs bt k,GeB b bs gs bt⟩
theorem tGe_ok (base b bs gs : Nat) (bt : Option Nat) (k : Ge) : (tGe base b bs gs bt k).Ok base :=
 ⟨fun _ _ _ h e hn=>IsGe.keep h e hn,fun _ i h hi=>IsGe.lt h i hi⟩
def GeH (W w : World) (p c : Nat) (C : List Int) (L : List Ev) (b : Nat) (k : Ge) (R : List Thing) : Prop :=
 ∃ v bs gs bt,Hold W w (tMem W.heap.size p c v C L :: tGe W.heap.size b bs gs bt k :: R)
section
variable {W w w' : World} {p c b : Nat} {C C' : List Int} {L L' : List Ev} {k k' : Ge} {R : List Thing}
theorem GeH.later (h : GeH W w p c C L b k R) (e : Below w.heap.size w w') : GeH W w' p c C L b k R:=by
 obtain ⟨v,bs,gs,bt,h⟩:=h
 exact ⟨v,bs,gs,bt,Hold.later h e⟩
theorem GeH.value (h : GeH W w p c C L b k R) (x : Int) (hx : k.val = x) (h1 : k.ph = 1 → k.ta ≠ none) : Calls Tryz.prog 55 #[pt b] w fun r w'=>r = .returned (u64 x) ∧ Below w.heap.size w w':=by
 obtain ⟨v,bs,gs,bt,h⟩:=h
 exact hx ▸ zEQ (zED W.heap.size w b bs gs bt k (h.has 1 _ rfl) h1)
end
theorem zBL {ws : List Int} {S : List Nat} {e z : Int} (hS : IsOrder ws S) (hz : IsEnd ws e z) :
  (S = [] ∧ z = -1) ∨ ∃ j : Nat,z = (j : Int) ∧ j < ws.length ∧ live ws j ∧ 0 < S.length ∧ (e = 0 → S.getD 0 0 = j) ∧ (e ≠ 0 → S.getD (S.length - 1) 0 = j):=by
 have hget : ∀ q (h : q < S.length),S.getD q 0 = S[q]:=fun q h=>by rw [List.getD_eq_getElem?_getD,List.getElem?_eq_getElem h]; rfl
 rcases hz with ⟨h1,h2⟩ | ⟨i,h1,h2,h3,h4⟩
 ·refine .inl ⟨?_,h1⟩
  cases S with
  | nil=>rfl
  | cons a t =>
   have:=(hS.mem a).1 (List.mem_cons_self)
   exact absurd this.2 (h2 a this.1)
 ·have hi:=(hS.mem i).2 ⟨h2,h3⟩
  obtain ⟨q,hq,he⟩:=List.getElem_of_mem hi
  refine .inr ⟨i,h1,h2,h3,by omega,fun h0=>?_,fun h0=>?_⟩
  ·have hm:=(hS.mem S[0]).1 (List.getElem_mem (by omega))
   have h5:=h4 S[0] hm.1 hm.2
   rw [if_pos h0] at h5
   rcases (by omega : q = 0 ∨ 0 < q) with rfl | h6
   ·rw [hget 0 hq]
    exact he
   ·have h7:=List.pairwise_iff_getElem.1 hS.rise 0 q (by omega) hq h6
    rw [he] at h7
    omega
  ·have hm:=(hS.mem S[S.length - 1]).1 (List.getElem_mem (by omega))
   have h5:=h4 S[S.length - 1] hm.1 hm.2
   rw [if_neg h0] at h5
   rcases (by omega : q = S.length - 1 ∨ q < S.length - 1) with rfl | h6
   ·rw [hget _ hq]
    exact he
   ·have h7:=List.pairwise_iff_getElem.1 hS.rise q (S.length - 1) hq (by omega) h6
    rw [he] at h7
    omega
theorem zAS {C : List Int} {N i : Nat} (h : i < N) : (C.take N).getD i 0 = C.getD i 0:=by
 rw [List.getD_eq_getElem?_getD,List.getElem?_take,if_pos h, ← List.getD_eq_getElem?_getD]
theorem zDa {X C : List Int} {N : Nat} (hX : X.length = N) (hC : N ≤ C.length) (h : ∀ j,j < N → X.getD j 0 = C.getD j 0) : X = C.take N:=by
 refine List.ext_getElem (by rw [List.length_take]; omega) (fun i h1 h2=>?_)
 have h3:=h i (by omega)
 rw [List.getD_eq_getElem?_getD,List.getD_eq_getElem?_getD,List.getElem?_eq_getElem h1,List.getElem?_eq_getElem (by omega)] at h3
 rw [List.getElem_take]
 exact h3
def tk (k : Ge) (C0 : List Int) (N j r : Nat) : Ta := { ta0 k.t k.s k.so k.d k.who j (C0.getD j 0) with next:=r,value:=if 3 ≤ r then C0.getD (N + j) 0 else 0 }
def tkC (C0 : List Int) (hz j r : Nat) : List Int:=if r = 0 then C0 else if r ≤ 3 then C0.set hz (j + 1) else (C0.set hz (j + 1)).set j (tkW (C0.getD j 0))
structure GA (k : Ge) (C C0 : List Int) (N hz i : Nat) (T : Int:=0) : Prop where
 ok : k.Ok N hz C
 len : C.length = C0.length
 tries : k.tries = T
 at' : (k.ph = 0 ∧ k.ta = none ∧ C = C0 ∧ i < 2 * N ∧ ∃ st,Snap k.sn C0 N st i 0 (-1)) ∨
  (∃ j r : Nat,i = 2 * N + r ∧ r ≤ 4 ∧ k.ph = 0 ∧ j < N ∧ IsEnd (C0.take N) k.e j ∧ k.ta = some (tk k C0 N j r) ∧ C = tkC C0 hz j r) ∨
  (i = 2 * N ∧ k.ph = 2 ∧ IsEnd (C0.take N) k.e (-1) ∧ C = C0) ∨
  (∃ j : Nat,i = 2 * N + 5 ∧ k.ph = 1 ∧ j < N ∧ IsEnd (C0.take N) k.e j ∧ k.val = C0.getD (N + j) 0 ∧ k.ta ≠ none ∧ C = (tkC C0 hz j 4).set hz 0)
theorem Sn.step_ok {k : Sn} {n : Int} {C : List Int} (h : k.Ok n C) (hp : k.passes < 1000000) : (k.step C).Ok n C ∧ (k.step C).passes ≤ k.passes + 1 ∧ ((k.step C).ph = k.ph ∨ (k.step C).ph = 1):=by
 have h1:=h.r1; have h2:=h.r0; have h3:=h.p0; have h4:=h.N; have h5:=h.X; have hN:=h.lay.n1; have ht:=h.lay.t1
 have hX : (k.X.set k.slot (C.getD k.slot 0)).length = k.N:=by rw [List.length_set]; exact h5
 unfold Sn.step
 split
 ·split
  ·refine ⟨⟨h.lay,h.N,h.len,hX,h.s0,h.s1,Int.le_refl _,by show (0 : Int) < n; omega,by show 0 ≤ k.passes + 1; omega,by show k.passes + 1 ≤ 1000000; omega⟩,by show k.passes + 1 ≤ k.passes + 1; omega, ?_⟩
   by_cases hc : 1 < k.passes + 1 ∧ (k.put (C.getD k.slot 0)).turned = false
   ·exact .inr (if_pos hc)
   ·exact .inl (if_neg hc)
  ·exact ⟨⟨h.lay,h.N,h.len,hX,h.s0,h.s1,by show 0 ≤ k.read + 1; omega,by show k.read + 1 < n; omega,h.p0,h.p1⟩,by show k.passes ≤ k.passes + 1; omega,.inl rfl⟩
 ·exact ⟨h,by omega,.inl rfl⟩
theorem Sn.Ok.cells {k : Sn} {n : Int} {C C' : List Int} (h : k.Ok n C) (e : C'.length = C.length) : k.Ok n C' :=
 ⟨h.lay,h.N,by rw [e]; exact h.len,h.X,h.s0,h.s1,h.r0,h.r1,h.p0,h.p1⟩
theorem Ta.Ok.cells' {k : Ta} {n : Int} {j jv hz : Nat} {C C' : List Int} (h : k.Ok n j jv hz C) (e : C'.length = C.length) : k.Ok n j jv hz C' :=
 ⟨h.lay,by rw [e]; exact h.len,h.w0,h.w1,h.s0,h.s1,h.hj,h.hjv,h.hhz,h.x0,h.x1,h.st⟩
theorem zH9 {t s so d who start : Int} {N : Nat} {C : List Int} (hl : Lay t s N) (hlen : (C.length : Int) = 2 * N + 2 * t) : (sn0 t s so d who (IntKind.u64.wrap start % N) N).Ok N C ∧ (∀ i,0 ≤ (sn0 t s so d who (IntKind.u64.wrap start % N) N).X.getD i 0 ∧ (sn0 t s so d who (IntKind.u64.wrap start % N) N).X.getD i 0 ≤ 18446744073709551615):=by
 have hn:=hl.n1; have ht:=hl.t1; have hn2:=hl.n2
 obtain ⟨m1,m2,m5,m3,m4⟩:=zAy start N (by omega) (by omega)
 exact ⟨⟨hl,rfl,hlen,List.length_replicate,m3,m4,Int.le_refl _,by show (0 : Int) < N; omega,Int.le_refl _,by show (0 : Int) ≤ 1000000; decide⟩,fun i=>by show 0 ≤ (List.replicate N 0).getD i 0 ∧ (List.replicate N 0).getD i 0 ≤ 18446744073709551615; rw [gzeros]; exact ⟨Int.le_refl _,by decide⟩⟩
theorem go_phs {a : Ta} {j jv : Nat} {C : List Int} (h : a.ph = 0) : (a.go j jv C).ph = 0 ∨ (a.go j jv C).ph = 1 ∨ (a.go j jv C).ph = 2:=by
 unfold Ta.go
 repeat' split
 all_goals first | exact .inl h | exact .inr (.inl rfl) | exact .inr (.inr rfl)
structure Ge.Same (k k' : Ge) : Prop where
 t : k'.t = k.t
 s : k'.s = k.s
 so : k'.so = k.so
 d : k'.d = k.d
 who : k'.who = k.who
 e : k'.e = k.e
 start : k'.start = k.start
theorem Ge.Same.refl (k : Ge) : k.Same k:=⟨rfl,rfl,rfl,rfl,rfl,rfl,rfl⟩
theorem Ge.step_same (k : Ge) (N hz : Nat) (C : List Int) (z : Int) : k.Same (k.step N hz C z):=by
 unfold Ge.step
 split
 ·exact .refl k
 ·split
  ·unfold Ge.read
   split
   ·exact ⟨rfl,rfl,rfl,rfl,rfl,rfl,rfl⟩
   ·split <;> exact ⟨rfl,rfl,rfl,rfl,rfl,rfl,rfl⟩
  ·unfold Ge.grab
   split
   ·exact ⟨rfl,rfl,rfl,rfl,rfl,rfl,rfl⟩
   ·split <;> exact ⟨rfl,rfl,rfl,rfl,rfl,rfl,rfl⟩
theorem Ge.cells_len (k : Ge) (N hz : Nat) (C : List Int) : (k.cells N hz C).length = C.length:=by
 unfold Ge.cells
 split
 ·rfl
 ·split
  ·rfl
  ·exact Ta.cells_len _ _ _ _
theorem Ge.ev_le (k : Ge) (N hz : Nat) (C : List Int) : (k.ev N hz C).length ≤ 1:=by
 unfold Ge.ev
 split
 ·simp
 ·split
  ·exact Sn.ev_le _ _
  ·exact Ta.ev_le _ _ _ _ _
section
variable {k : Ge} {N hz : Nat} {C C' : List Int} {z : Int}
theorem Ge.Ok.cells (h : k.Ok N hz C) (e : C'.length = C.length) : k.Ok N hz C' :=
 ⟨h.lay,by rw [e]; exact h.len,h.hzz,h.w0,h.w1,h.e,h.t0,h.t1,h.sN,h.sX,fun a b=>⟨(h.sn a b).1.cells e,(h.sn a b).2⟩,fun a x b=>⟨(h.ta a x b).1.cells' e,(h.ta a x b).2⟩⟩
theorem ta0_ok {t s so d who word : Int} {j : Nat} (hl : Lay t s N) (hlen : (C.length : Int) = 2 * N + 2 * t) (hhz : (hz : Int) = 2 * N + who) (w0 : 0 ≤ who) (w1 : who < t) (hj : j < N) (x0 : 0 ≤ word) (x1 : word ≤ 18446744073709551615) : (ta0 t s so d who j word).Ok N j (N + j) hz C :=
 ⟨hl,hlen,w0,w1,by show (0 : Int) ≤ (j : Int); omega,by show (j : Int) < N; omega,rfl,by show (N : Int) + j = ((N + j : Nat) : Int); omega,hhz.symm,x0,x1,fun _=>.inl ⟨rfl,rfl⟩⟩
theorem Ge.Ok.next (h : k.Ok N hz C) (ha : k.ask C z) (hp : k.ta = none → k.sn.passes < 1000000) (ht : k.tries < 1000000) (hf : ∀ j,0 ≤ C.getD j 0 ∧ C.getD j 0 ≤ 18446744073709551615) :
  (k.step N hz C z).Ok N hz (k.cells N hz C) ∧ (k.step N hz C z).sn.passes ≤ max 0 (k.sn.passes + 1) ∧ (k.step N hz C z).tries ≤ k.tries + 1 ∧ k.tries ≤ (k.step N hz C z).tries:=by
 obtain ⟨lay,len,hzz,w0,w1,e,t0,t1,sN,sX,sn,ta⟩:=id h
 have hn1:=lay.n1; have htt:=lay.t1
 by_cases hph : k.ph ≠ 0
 ·have e1 : k.step N hz C z = k:=if_pos hph
  have e2 : k.cells N hz C = C:=if_pos hph
  rw [e1,e2]
  exact ⟨h,by omega,by omega,by omega⟩
 ·have hp0 : k.ph = 0:=Classical.not_not.1 hph
  cases hta : k.ta with
  | none =>
   have e1 : k.step N hz C z = k.read (k.sn.step C) z:=by unfold Ge.step; rw [if_neg hph,hta]
   have e2 : k.cells N hz C = C:=by unfold Ge.cells; rw [if_neg hph,hta]
   obtain ⟨s1,s2⟩:=sn hp0 hta
   obtain ⟨s3,s4,s5⟩:=Sn.step_ok s1 (hp hta)
   obtain ⟨x1,x2⟩:=zIB (k:=k.sn) (C:=C) sX hf
   rw [e1,e2]
   replace hp:=hp hta
   unfold Ge.read
   split
   ·rename_i hne
    exact ⟨⟨lay,len,hzz,w0,w1,e,t0,t1,x1.trans sN,x2,fun _ _=>⟨s3,by rcases s5 with s5 | s5; (show (k.sn.step C).ph = 0; omega); exact absurd s5 hne⟩,fun _ a hh=>by have hh' : k.ta = some a:=hh; rw [hta] at hh'; cases hh'⟩,by show (k.sn.step C).passes ≤ _; omega,by show k.tries ≤ k.tries + 1; omega,Int.le_refl _⟩
   ·rename_i hd
    have hd1 : (k.sn.step C).ph = 1:=Classical.not_not.1 hd
    split
    ·exact ⟨⟨lay,len,hzz,w0,w1,e,t0,t1,x1.trans sN,x2,(fun hh=>by exact absurd hh (by simp)),(fun hh=>by exact absurd hh (by simp))⟩,by show (k.sn.step C).passes ≤ _; omega,by show k.tries ≤ k.tries + 1; omega,Int.le_refl _⟩
    ·rename_i hz0
     have hE:=ha hp0 hta hd1
     rcases hE with ⟨h1,_⟩ | ⟨i,rfl,h2,_⟩
     ·omega
     ·have hXl : (k.sn.step C).X.length = N:=s3.X.trans (x1.trans sN)
      refine ⟨⟨lay,len,hzz,w0,w1,e,t0,t1,x1.trans sN,x2,(fun _ hh=>by cases hh),fun _ a hh=>?_⟩,by show (k.sn.step C).passes ≤ _; omega,by show k.tries ≤ k.tries + 1; omega,Int.le_refl _⟩
      cases hh
      exact ⟨ta0_ok lay len hzz w0 w1 (by omega) (x2 _).1 (x2 _).2,rfl⟩
  | some a =>
   have e1 : k.step N hz C z = k.grab N (a.go a.slot.toNat (N + a.slot.toNat) C):=by unfold Ge.step; rw [if_neg hph,hta]
   have e2 : k.cells N hz C = a.cells a.slot.toNat hz C:=by unfold Ge.cells; rw [if_neg hph,hta]
   obtain ⟨a1,a2⟩:=ta hp0 a hta
   have hl:=Ta.cells_len a a.slot.toNat hz C
   have a3:=a1.next hl
   have hs:=a.go_same a.slot.toNat (N + a.slot.toNat) C
   have hgp:=go_phs (j:=a.slot.toNat) (jv:=N + a.slot.toNat) (C:=C) a2
   rw [e1,e2]
   generalize a.go a.slot.toNat (N + a.slot.toNat) C = a' at *
   unfold Ge.grab
   split
   ·exact ⟨⟨lay,by rw [hl]; exact len,hzz,w0,w1,e,t0,t1,sN,sX,(fun hh=>by exact absurd hh (by simp)),(fun hh=>by exact absurd hh (by simp))⟩,by show k.sn.passes ≤ _; omega,by show k.tries ≤ k.tries + 1; omega,Int.le_refl _⟩
   ·split
    ·obtain ⟨g1,g2⟩:=zH9 (so:=k.so) (d:=k.d) (who:=k.who) (start:=k.start) (C:=a.cells a.slot.toNat hz C) lay (by rw [hl]; exact len)
     exact ⟨⟨lay,by rw [hl]; exact len,hzz,w0,w1,e,by show 0 ≤ k.tries + 1; omega,by show k.tries + 1 ≤ 1000000; omega,rfl,g2,fun _ _=>⟨g1,rfl⟩,(fun _ a hh=>by cases hh)⟩,by show (0 : Int) ≤ _; omega,by show k.tries + 1 ≤ k.tries + 1; omega,by show k.tries ≤ k.tries + 1; omega⟩
    ·rename_i h1 h2
     have hsl : a'.slot = a.slot:=hs.slot
     have hpp : a'.ph = 0:=by
      have:=hgp
      omega
     refine ⟨⟨lay,by rw [hl]; exact len,hzz,w0,w1,e,t0,t1,sN,sX,(fun _ hh=>by cases hh),fun _ x hh=>?_⟩,by show k.sn.passes ≤ _; omega,by show k.tries ≤ k.tries + 1; omega,Int.le_refl _⟩
     cases hh
     rw [hsl]
     exact ⟨a3,hpp⟩
end
section
variable {k : Ge} {N hz i : Nat} {C C0 : List Int} {z : Int}
theorem zH5 {t s so d who e start : Int} (hl : Lay t s N) (hlen : (C.length : Int) = 2 * N + 2 * t) (hhz : (hz : Int) = 2 * N + who) (w0 : 0 ≤ who) (w1 : who < t) (he : e = 0 ∨ e = 1) : (ge0 t s so d who e start N).Ok N hz C:=by
 obtain ⟨g1,g2⟩:=zH9 (so:=so) (d:=d) (who:=who) (start:=start) (C:=C) hl hlen
 exact ⟨hl,hlen,hhz,w0,w1,he,Int.le_refl _,by show (0 : Int) ≤ 1000000; decide,rfl,g2,fun _ _=>⟨g1,rfl⟩,fun _ a h=>by cases h⟩
theorem GA.start {t s so d who e start : Int} (hl : Lay t s N) (hlen : (C0.length : Int) = 2 * N + 2 * t) (hhz : (hz : Int) = 2 * N + who) (w0 : 0 ≤ who) (w1 : who < t) (he : e = 0 ∨ e = 1) : GA (ge0 t s so d who e start N) C0 C0 N hz 0:=by
 have hn1:=hl.n1
 have hn2:=hl.n2
 refine ⟨zH5 hl hlen hhz w0 w1 he,rfl,rfl,.inl ⟨rfl,rfl,rfl,by omega, ?_⟩⟩
 obtain ⟨m1,m2,m5,m3,m4⟩:=zAy start N (by omega) (by omega)
 obtain ⟨st,hst⟩ : ∃ st : Nat,IntKind.u64.wrap start % N = (st : Int):=⟨_,(Int.toNat_of_nonneg m3).symm⟩
 refine ⟨st, ?_⟩
 show Snap (sn0 t s so d who (IntKind.u64.wrap start % N) N) C0 N st 0 0 (-1)
 rw [hst]
 exact Snap.start t s so d who C0 N st 0 (by omega)
theorem GA.passes {T : Int} (h : GA k C C0 N hz i T) (hp : k.ph = 0) : k.ta = none → k.sn.passes < 1000000:=by
 intro hta
 rcases h.at' with ⟨_,_,_,hi,st,hs⟩ | ⟨j,r,_,_,_,_,_,h2,_⟩ | ⟨_,h2,_⟩ | ⟨j,_,h2,_⟩
 ·have hn1:=h.ok.lay.n1
  rcases hs with ⟨P,r,h1,h2⟩ | ⟨P,h1,h2⟩
  ·rw [h2.at'.passes]
   have:=Nat.mul_le_mul_left P (show 1 ≤ N by omega)
   rcases Nat.lt_or_ge P 2 with h3 | h3
   ·omega
   ·have:=Nat.mul_le_mul_right N h3
    omega
  ·have:=h2.ph
   have:=(h.ok.sn hp hta).2
   omega
 ·rw [hta] at h2
  cases h2
 ·omega
 ·omega
theorem GA.step {T : Int} (h : GA k C C0 N hz i T) (hp : k.ph = 0) (ha : k.ask C z) (hf : ∀ j,0 ≤ C.getD j 0 ∧ C.getD j 0 ≤ 18446744073709551615) (hT : T < 1000000:=by decide) : GA (k.step N hz C z) (k.cells N hz C) C0 N hz (i + 1) T:=by
 obtain ⟨n1,n2,n3,n4⟩:=h.ok.next ha (h.passes hp) (by have:=h.tries; omega) hf
 have hl:=k.cells_len N hz C
 have hsame:=k.step_same N hz C z
 have hn1:=h.ok.lay.n1
 have hlen:=h.ok.len
 have hzz:=h.ok.hzz
 have w0:=h.ok.w0
 have w1:=h.ok.w1
 have hlen0:=h.len
 rcases h.at' with ⟨_,hta,hC,hi,st,hs⟩ | ⟨j,r,hi,hr,_,hj,hE,hta,hC⟩ | ⟨_,h2,_⟩ | ⟨j,_,h2,_⟩
 ·subst hC
  have e1 : k.step N hz C z = k.read (k.sn.step C) z:=by unfold Ge.step; rw [if_neg (by omega),hta]
  have e2 : k.cells N hz C = C:=by unfold Ge.cells; rw [if_neg (by omega),hta]
  have hs':=hs.step (h.ok.sn hp hta).2
  refine ⟨n1,by rw [hl], ?_, ?_⟩
  ·rw [e1]
   unfold Ge.read
   split
   ·exact h.tries
   ·split <;> exact h.tries
  ·rw [e2]
   rcases hs'.cases with ⟨h1,h2⟩ | ⟨h1,P,h2,h3,h4,h5,h6⟩
   ·have e3 : k.read (k.sn.step C) z = { k with sn:=k.sn.step C }:=by unfold Ge.read; rw [if_pos (by omega)]
    rw [e1,e3]
    exact .inl ⟨hp,hta,rfl,by omega,st,hs'⟩
   ·obtain rfl : P = 2:=by omega
    have hX:=hs'.X
    have hXe:=zDa (C:=C) hX.1 (by omega) (h6 (by decide))
    have hE:=ha hp hta h1
    rw [hXe] at hE
    have e3 : k.read (k.sn.step C) z = if z < 0 then { k with sn:=k.sn.step C,ph:=2 } else { k with sn:=k.sn.step C,ta:=some (ta0 k.t k.s k.so k.d k.who z ((k.sn.step C).X.getD z.toNat 0)) }:=by unfold Ge.read; rw [if_neg (by omega)]
    rw [e1,e3]
    rcases id hE with ⟨h7,_⟩ | ⟨j,rfl,h7,_⟩
    ·rw [if_pos (by omega)]
     rw [h7] at hE
     exact .inr (.inr (.inl ⟨h2,rfl,hE,rfl⟩))
    ·rw [if_neg (by omega)]
     have hjN : j < N:=by rw [List.length_take] at h7; omega
     refine .inr (.inl ⟨j,0,by omega,by omega,hp,hjN,hE, ?_,rfl⟩)
     show some (ta0 k.t k.s k.so k.d k.who j ((k.sn.step C).X.getD (j : Int).toNat 0)) = some (tk _ C N j 0)
     rw [hXe,Int.toNat_natCast,zAS hjN]
     rfl
 ·obtain ⟨a,hae⟩ : ∃ a,a = tk k C0 N j r:=⟨_,rfl⟩
  rw [← hae] at hta
  have e1 : k.step N hz C z = k.grab N (a.go a.slot.toNat (N + a.slot.toNat) C):=by unfold Ge.step; rw [if_neg (by omega),hta]
  have e2 : k.cells N hz C = a.cells a.slot.toNat hz C:=by unfold Ge.cells; rw [if_neg (by omega),hta]
  have asl : a.slot.toNat = j:=by rw [hae]; rfl
  have asn : a.slot = j:=by rw [hae]; rfl
  have ap : a.ph = 0:=by rw [hae]; rfl
  have aw : a.word = C0.getD j 0:=by rw [hae]; rfl
  have an : a.next = r:=by rw [hae]; rfl
  have al : a.lost = false:=by rw [hae]; rfl
  rw [asl] at e1 e2
  have hjz : hz ≠ j:=by omega
  have hjvz : hz ≠ N + j:=by omega
  have hg : r ≤ 3 → C.getD j 0 = a.word:=fun h3=>by
   rw [aw,hC]
   unfold tkC
   rw [if_pos h3]
   split
   ·rfl
   ·exact zAF _ hjz
  have hgv : C.getD (N + j) 0 = C0.getD (N + j) 0:=by
   rw [hC]
   unfold tkC
   split
   ·rfl
   ·split
    ·exact zAF _ hjvz
    ·rw [zAF _ (by omega),zAF _ hjvz]
  have on : ∀ a',a.go j (N + j) C = a' → a'.ph = 0 → (∀ k' : Ge,k.Same k' → a' = tk k' C0 N j (r + 1)) → a.cells j hz C = tkC C0 hz j (r + 1) → r ≤ 3 → GA (k.step N hz C z) (k.cells N hz C) C0 N hz (i + 1) T:=by
   intro a' g1 g2 g3 g4 g5
   have e3 : k.step N hz C z = { k with ta:=some a' }:=by
    rw [e1,g1]
    unfold Ge.grab
    rw [if_neg (by omega),if_neg (by omega)]
   refine ⟨n1,by rw [hl]; exact hlen0,by rw [e3]; exact h.tries,.inr (.inl ⟨j,r + 1,by omega,by omega,by rw [e3]; exact hp,hj,by rw [hsame.e]; exact hE, ?_,by rw [e2]; exact g4⟩)⟩
   rw [← g3 _ hsame,e3]
  have tkeq : ∀ k' : Ge,k.Same k' → ∀ q,tk k' C0 N j q = tk k C0 N j q:=fun k' hs q=>by
   unfold tk
   rw [hs.t,hs.s,hs.so,hs.d,hs.who]
  rcases (by omega : r = 0 ∨ r = 1 ∨ r = 2 ∨ r = 3 ∨ r = 4) with rfl | rfl | rfl | rfl | rfl
  ·obtain ⟨g1,g2,g3⟩:=go_0 (j:=j) (jv:=N + j) (hz:=hz) (C:=C) ap an
   refine on _ g1 ap (fun k' hs=>by rw [tkeq k' hs,hae]; rfl) ?_ (by omega)
   rw [g2,hC,asn]
   rfl
  ·obtain ⟨g1,g2,g3⟩:=go_1y (jv:=N + j) (hz:=hz) ap an (hg (by omega))
   refine on _ g1 ap (fun k' hs=>by rw [tkeq k' hs,hae]; rfl) ?_ (by omega)
   rw [g2,hC]
   rfl
  ·obtain ⟨g1,g2,g3⟩:=go_2 (j:=j) (jv:=N + j) (hz:=hz) (C:=C) ap an
   refine on _ g1 ap (fun k' hs=>by rw [tkeq k' hs,hae,hgv]; rfl) ?_ (by omega)
   rw [g2,hC]
   rfl
  ·obtain ⟨g1,g2,g3⟩:=go_3y (jv:=N + j) (hz:=hz) ap an (hg (by omega))
   refine on _ g1 ap (fun k' hs=>by rw [tkeq k' hs,hae]; rfl) ?_ (by omega)
   rw [g2,hC,aw]
   rfl
  ·obtain ⟨g1,g2,g3⟩:=go_4y (j:=j) (jv:=N + j) (hz:=hz) (C:=C) ap an al
   have e3 : k.step N hz C z = { k with ta:=some { a with next:=5,ph:=1 },ph:=1 }:=by
    rw [e1,g1]
    unfold Ge.grab
    rw [if_pos rfl]
   refine ⟨n1,by rw [hl]; exact hlen0,by rw [e3]; exact h.tries,.inr (.inr (.inr ⟨j,by omega,by rw [e3],hj,by rw [hsame.e]; exact hE, ?_,by rw [e3]; exact (fun h=>by cases h),by rw [e2,g2,hC]⟩))⟩
   rw [e3]
   show (if (1 : Int) = 1 then (if (1 : Int) = 1 then a.value else 0) else 0) = _
   rw [if_pos rfl,if_pos rfl,hae]
   rfl
 ·omega
 ·omega
theorem GA.cases {T : Int} (h : GA k C C0 N hz i T) : (k.ph = 0 ∧ i < 2 * N + 5) ∨ (i = 2 * N ∧ k.ph = 2 ∧ IsEnd (C0.take N) k.e (-1) ∧ C = C0) ∨
  (∃ j : Nat,i = 2 * N + 5 ∧ k.ph = 1 ∧ j < N ∧ IsEnd (C0.take N) k.e j ∧ k.val = C0.getD (N + j) 0 ∧ k.ta ≠ none ∧ C = (tkC C0 hz j 4).set hz 0):=by
 rcases h.at' with ⟨h1,_,_,h2,_⟩ | ⟨j,r,h1,h2,h3,_⟩ | h1 | h1
 ·exact .inl ⟨h1,by omega⟩
 ·exact .inl ⟨h3,by omega⟩
 ·exact .inr (.inl h1)
 ·exact .inr (.inr h1)
end
end
section
end
section
section
variable {k : Ge} {N hz n : Nat} {C C0 : List Int} {e z : Int}
end
section
variable {W w w1 : World} {p c b p' c' b' : Nat} {C C' : List Int} {L L' : List Ev} {k k' : Ge}
end
end
section
theorem zFn {x : Int} (x0 : 0 ≤ x) (x1 : x ≤ 18446744073709551615) : tkW x % 4 = 2 ∧ 0 ≤ tkW x ∧ tkW x ≤ 18446744073709551615:=by
 unfold tkW
 omega
end
end
section
open Go.RowKit
section
section
variable (base : Nat) (w : World) (b p c : Nat) (v : Value) (C : List Int) (L : List Ev) (k : Cl) (n m : Int) (hz : Nat)
theorem look_0 (x : Int) (h4 : x / 8 % 8192 = 8191) (hk : k.Ok n m hz C) (j : Nat) (hsl : k.slot = (j : Int)) (hx : C[j]? = some x) (hT : IsObj w b k.list) (hM : IsMem base w p c v C L) (ha : ¬ Foot p c v b) (hb : base ≤ w.heap.size) (hL : L.length < 1000000000) :
  Calls Tryz.prog 77 #[pt b,pt p] w (ClPost base w b p c v (k.look m x) C (L ++ [⟨k.who,0,j,x,x,true⟩]) (.returned (.tuple #[]))):=by
 obtain ⟨hl,hhz,hlen,w0,w1,hm,m0,m1,s0,s1,g0,g1⟩:=hk
 have hnx:=hM.numAt hx
 have hU:=fun W=>zAn x W hnx.1 hnx.2
 have HS:=zIo (Does.refl (B:=(· = b)) hM (fun i hi=>hi ▸ ha) hb)
 have hA : AtHead w.drew b k.t k.s k.so k.d k.who k.slot:=hT.drew.head
 unfold Cl.look Cl.word
 generalize x % 4 = xs at hU h4 ⊢
 generalize x / 4 % 2 = xe at hU h4 ⊢
 generalize x / 8 % 8192 = xg at hU h4 ⊢
 generalize x / 65536 % 16777216 = xl at hU h4 ⊢
 generalize x / 1099511627776 = xh at hU h4 ⊢
 have HU:=zIo hU
 have HT:=zIo hT
 have HX:=zIo hx
 have HP:=zIo (fun W (hW : IsObj W b { k with ws:=xs,we:=xe,wg:=xg,wl:=xl,wh:=xh }.list)=>zBA W b { k with ws:=xs,we:=xe,wg:=xg,wl:=xl,wh:=xh } n m hl w0 w1 hm m0 m1 s0 s1 hW)
 have HSL:=zIo hsl
 clear hU hT hx hM ha hm hhz hlen hsl
 have h:=h4
 clear h4
 rw [if_pos h]
 have q1 : (xg == 8191) = true:=by simp [h]
 clear h
 go_enter Tryz.func77,Tryz.ntmps77
 go_wp2_with fail
 refine zAD ((fun w'=>AtHead w' b k.t k.s k.so k.d k.who k.slot)) ((0,true) :: (1,true) :: (2,true) :: (3,true) :: (4,true) :: (5,true) :: (6,true) :: (7,true) :: (8,true) :: (9,true) :: (10,true) :: (11,true) :: (12,true) :: (13,true) :: (14,false) :: (15,false) :: (16,false) :: (17,true) :: (18,true) :: (19,false) :: []) (by kernel_rfl) (by kernel_rfl) (by kernel_rfl) (by decide) (fun _ _ _ _ _ h=>h) (hA) ?_
 repeat ((first | (refine zAC (v := ?_) rfl ?_ ?_ ?_; rotate_left 1; rfl; focus (rintro wS ⟨c0,c1,c2,c3,c4,c5⟩; go_simp <;> with_reducible rfl)) | (refine zAB rfl ?_ ?_; rfl)); try simp only [Act.put,qset])
 refine zAH rfl (fun K hK=>?_)
 go_simp
 go_at_call 70
 refine (zAZ _ _ _ _ _ _).mono ?_
 rintro r w1 ⟨rfl,hb1⟩
 (try go_wp2_with fail)
 replace HT:=zIo (HT.out.drew.later hb1)
 replace HS:=zIo (HS.out.drew.later hb1)
 clear hb1 hA
 refine hK.out _ _ (HT.out.head) (fun _=>?_)
 (try simp only [Act.put,qset])
 clear hK K
 repeat ((first | (refine zAC (v := ?_) rfl ?_ ?_ ?_; rotate_left 1; rfl; focus (rintro wS ⟨c0,c1,c2,c3,c4,c5⟩; go_simp <;> with_reducible rfl)) | (refine zAB rfl ?_ ?_; rfl)); try simp only [Act.put,qset])
 refine zAH rfl (fun K hK=>?_)
 go_simp
 go_at_call 92
 refine (zC9 base _ p c _ _ _ k.who _ j x HSL.out HS.out.mem HX.out HS.out.size hL).mono ?_
 rintro r w2 ⟨rfl,v2,hT2⟩
 (try go_wp2_with fail)
 have hlt1:=HT.out.lt
 replace HT:=zIo (HT.out.keep hT2.keep (HS.out.apart b rfl))
 replace HS:=zIo (HS.out.cells (fun i hi=>hi ▸ hlt1) hT2)
 clear hT2
 refine hK.out _ _ (HT.out.head) (fun _=>?_)
 (try simp only [Act.put,qset])
 clear hK K
 repeat ((first | (refine zAC (v := ?_) rfl ?_ ?_ ?_; rotate_left 1; rfl; focus (rintro wS ⟨c0,c1,c2,c3,c4,c5⟩; go_simp <;> with_reducible rfl)) | (refine zAB rfl ?_ ?_; rfl)); try simp only [Act.put,qset])
 refine zAH rfl (fun K hK=>?_)
 go_simp
 go_at_call 91
 refine (HU.out _).mono ?_
 rintro r w3 ⟨rfl,hb3⟩
 (try go_wp2_with fail)
 replace HT:=zIo (HT.out.later hb3)
 replace HS:=zIo (HS.out.later hb3)
 clear hb3
 refine hK.out _ _ (HT.out.head) (fun _=>?_)
 (try simp only [Act.put,qset])
 clear hK K
 obtain ⟨c0,c1,c2,c3,c4,c5,c6,c7,c8,c9,c10,c11,c12⟩:=HT.out.cl
 have f7:=HT.out.fz 7
 have f8:=HT.out.fz 8
 have f9:=HT.out.fz 9
 have f10:=HT.out.fz 10
 have f11:=HT.out.fz 11
 repeat ((first | (refine zAC (v := ?_) rfl ?_ ?_ ?_; rotate_left 1; rfl; focus (rintro wS ⟨x0,x1,x2,x3,x4,x5⟩; go_simp <;> with_reducible rfl)) | (refine zAB rfl ?_ ?_; rfl)); try simp only [Act.put,qset])
 refine zAH rfl (fun K hK=>?_)
 go_simp
 have HT4:=zIo (((((HT.out.set 7 (i64 xs)).set 8 (i64 xe)).set 9 (i64 xg)).set 10 (i64 xl)).set 11 (i64 xh))
 have HS4:=zIo (HS.out.own ((((((Keep.refl _ _).own 7 (i64 xs)).own 8 (i64 xe)).own 9 (i64 xg)).own 10 (i64 xl)).own 11 (i64 xh)))
 clear c0 c1 c2 c3 c4 c5 c6 c7 c8 c9 c10 c11 c12 f7 f8 f9 f10 f11
 refine hK.out _ _ (HT4.out.head) (fun _=>?_)
 (try simp only [Act.put,qset])
 clear hK K
 refine zAJ ?_
 obtain ⟨c0,c1,c2,c3,c4,c5,c6,c7,c8,c9,c10,c11,c12⟩:=HT4.out.cl (k := { k with ws:=xs,we:=xe,wg:=xg,wl:=xl,wh:=xh })
 go_wp2_with fail
 refine (HP.out _ HT4.out).mono ?_
 rintro r w5 ⟨rfl,hT5,hK5⟩
 go_wp2
 go_end0
 exact ⟨rfl,_,HS4.out.own hK5,hT5⟩
theorem look_1 (x : Int) (h4 : x / 8 % 8192 ≠ 8191 ∧ x % 4 = 0) (hk : k.Ok n m hz C) (j : Nat) (hsl : k.slot = (j : Int)) (hx : C[j]? = some x) (hT : IsObj w b k.list) (hM : IsMem base w p c v C L) (ha : ¬ Foot p c v b) (hb : base ≤ w.heap.size) (hL : L.length < 1000000000) :
  Calls Tryz.prog 77 #[pt b,pt p] w (ClPost base w b p c v (k.look m x) C (L ++ [⟨k.who,0,j,x,x,true⟩]) (.returned (.tuple #[]))):=by
 obtain ⟨hl,hhz,hlen,w0,w1,hm,m0,m1,s0,s1,g0,g1⟩:=hk
 have hnx:=hM.numAt hx
 have hU:=fun W=>zAn x W hnx.1 hnx.2
 have HS:=zIo (Does.refl (B:=(· = b)) hM (fun i hi=>hi ▸ ha) hb)
 have hA : AtHead w.drew b k.t k.s k.so k.d k.who k.slot:=hT.drew.head
 unfold Cl.look Cl.word
 generalize x % 4 = xs at hU h4 ⊢
 generalize x / 4 % 2 = xe at hU h4 ⊢
 generalize x / 8 % 8192 = xg at hU h4 ⊢
 generalize x / 65536 % 16777216 = xl at hU h4 ⊢
 generalize x / 1099511627776 = xh at hU h4 ⊢
 have HU:=zIo hU
 have HT:=zIo hT
 have HX:=zIo hx
 have HP:=zIo (fun W (hW : IsObj W b { k with ws:=xs,we:=xe,wg:=xg,wl:=xl,wh:=xh }.list)=>zBA W b { k with ws:=xs,we:=xe,wg:=xg,wl:=xl,wh:=xh } n m hl w0 w1 hm m0 m1 s0 s1 hW)
 have HSL:=zIo hsl
 clear hU hT hx hM ha hm hhz hlen hsl
 obtain ⟨h,h'⟩:=h4
 rw [if_neg h,if_pos h']
 have q1 : (xg == 8191) = false:=by simp [h]
 have q2 : (xs == 0) = true:=by simp [h']
 clear h h'
 go_enter Tryz.func77,Tryz.ntmps77
 go_wp2_with fail
 refine zAD ((fun w'=>AtHead w' b k.t k.s k.so k.d k.who k.slot)) ((0,true) :: (1,true) :: (2,true) :: (3,true) :: (4,true) :: (5,true) :: (6,true) :: (7,true) :: (8,true) :: (9,true) :: (10,true) :: (11,true) :: (12,true) :: (13,true) :: (14,false) :: (15,false) :: (16,false) :: (17,true) :: (18,true) :: (19,false) :: []) (by kernel_rfl) (by kernel_rfl) (by kernel_rfl) (by decide) (fun _ _ _ _ _ h=>h) (hA) ?_
 repeat ((first | (refine zAC (v := ?_) rfl ?_ ?_ ?_; rotate_left 1; rfl; focus (rintro wS ⟨c0,c1,c2,c3,c4,c5⟩; go_simp <;> with_reducible rfl)) | (refine zAB rfl ?_ ?_; rfl)); try simp only [Act.put,qset])
 refine zAH rfl (fun K hK=>?_)
 go_simp
 go_at_call 70
 refine (zAZ _ _ _ _ _ _).mono ?_
 rintro r w1 ⟨rfl,hb1⟩
 (try go_wp2_with fail)
 replace HT:=zIo (HT.out.drew.later hb1)
 replace HS:=zIo (HS.out.drew.later hb1)
 clear hb1 hA
 refine hK.out _ _ (HT.out.head) (fun _=>?_)
 (try simp only [Act.put,qset])
 clear hK K
 repeat ((first | (refine zAC (v := ?_) rfl ?_ ?_ ?_; rotate_left 1; rfl; focus (rintro wS ⟨c0,c1,c2,c3,c4,c5⟩; go_simp <;> with_reducible rfl)) | (refine zAB rfl ?_ ?_; rfl)); try simp only [Act.put,qset])
 refine zAH rfl (fun K hK=>?_)
 go_simp
 go_at_call 92
 refine (zC9 base _ p c _ _ _ k.who _ j x HSL.out HS.out.mem HX.out HS.out.size hL).mono ?_
 rintro r w2 ⟨rfl,v2,hT2⟩
 (try go_wp2_with fail)
 have hlt1:=HT.out.lt
 replace HT:=zIo (HT.out.keep hT2.keep (HS.out.apart b rfl))
 replace HS:=zIo (HS.out.cells (fun i hi=>hi ▸ hlt1) hT2)
 clear hT2
 refine hK.out _ _ (HT.out.head) (fun _=>?_)
 (try simp only [Act.put,qset])
 clear hK K
 repeat ((first | (refine zAC (v := ?_) rfl ?_ ?_ ?_; rotate_left 1; rfl; focus (rintro wS ⟨c0,c1,c2,c3,c4,c5⟩; go_simp <;> with_reducible rfl)) | (refine zAB rfl ?_ ?_; rfl)); try simp only [Act.put,qset])
 refine zAH rfl (fun K hK=>?_)
 go_simp
 go_at_call 91
 refine (HU.out _).mono ?_
 rintro r w3 ⟨rfl,hb3⟩
 (try go_wp2_with fail)
 replace HT:=zIo (HT.out.later hb3)
 replace HS:=zIo (HS.out.later hb3)
 clear hb3
 refine hK.out _ _ (HT.out.head) (fun _=>?_)
 (try simp only [Act.put,qset])
 clear hK K
 obtain ⟨c0,c1,c2,c3,c4,c5,c6,c7,c8,c9,c10,c11,c12⟩:=HT.out.cl
 have f7:=HT.out.fz 7
 have f8:=HT.out.fz 8
 have f9:=HT.out.fz 9
 have f10:=HT.out.fz 10
 have f11:=HT.out.fz 11
 repeat ((first | (refine zAC (v := ?_) rfl ?_ ?_ ?_; rotate_left 1; rfl; focus (rintro wS ⟨x0,x1,x2,x3,x4,x5⟩; go_simp <;> with_reducible rfl)) | (refine zAB rfl ?_ ?_; rfl)); try simp only [Act.put,qset])
 refine zAH rfl (fun K hK=>?_)
 go_simp
 have HT4:=zIo (((((HT.out.set 7 (i64 xs)).set 8 (i64 xe)).set 9 (i64 xg)).set 10 (i64 xl)).set 11 (i64 xh))
 have HS4:=zIo (HS.out.own ((((((Keep.refl _ _).own 7 (i64 xs)).own 8 (i64 xe)).own 9 (i64 xg)).own 10 (i64 xl)).own 11 (i64 xh)))
 clear c0 c1 c2 c3 c4 c5 c6 c7 c8 c9 c10 c11 c12 f7 f8 f9 f10 f11
 refine hK.out _ _ (HT4.out.head) (fun _=>?_)
 (try simp only [Act.put,qset])
 clear hK K
 refine zAJ ?_
 obtain ⟨c0,c1,c2,c3,c4,c5,c6,c7,c8,c9,c10,c11,c12⟩:=HT4.out.cl (k := { k with ws:=xs,we:=xe,wg:=xg,wl:=xl,wh:=xh })
 have ff:=HT4.out.fz 12
 go_wp2
 go_end0
 exact ⟨rfl,_,HS4.out.own ((Keep.refl _ _).own 12 _),HT4.out.set 12 (.int .i64 1)⟩
theorem look_2 (x : Int) (h4 : x / 8 % 8192 ≠ 8191 ∧ x % 4 ≠ 0 ∧ x % 4 = 2) (hk : k.Ok n m hz C) (j : Nat) (hsl : k.slot = (j : Int)) (hx : C[j]? = some x) (hT : IsObj w b k.list) (hM : IsMem base w p c v C L) (ha : ¬ Foot p c v b) (hb : base ≤ w.heap.size) (hL : L.length < 1000000000) :
  Calls Tryz.prog 77 #[pt b,pt p] w (ClPost base w b p c v (k.look m x) C (L ++ [⟨k.who,0,j,x,x,true⟩]) (.returned (.tuple #[]))):=by
 obtain ⟨hl,hhz,hlen,w0,w1,hm,m0,m1,s0,s1,g0,g1⟩:=hk
 have hnx:=hM.numAt hx
 have hU:=fun W=>zAn x W hnx.1 hnx.2
 have HS:=zIo (Does.refl (B:=(· = b)) hM (fun i hi=>hi ▸ ha) hb)
 have hA : AtHead w.drew b k.t k.s k.so k.d k.who k.slot:=hT.drew.head
 unfold Cl.look Cl.word
 generalize x % 4 = xs at hU h4 ⊢
 generalize x / 4 % 2 = xe at hU h4 ⊢
 generalize x / 8 % 8192 = xg at hU h4 ⊢
 generalize x / 65536 % 16777216 = xl at hU h4 ⊢
 generalize x / 1099511627776 = xh at hU h4 ⊢
 have HU:=zIo hU
 have HT:=zIo hT
 have HX:=zIo hx
 have HP:=zIo (fun W (hW : IsObj W b { k with ws:=xs,we:=xe,wg:=xg,wl:=xl,wh:=xh }.list)=>zBA W b { k with ws:=xs,we:=xe,wg:=xg,wl:=xl,wh:=xh } n m hl w0 w1 hm m0 m1 s0 s1 hW)
 have HSL:=zIo hsl
 clear hU hT hx hM ha hm hhz hlen hsl
 obtain ⟨h,h',h2⟩:=h4
 rw [if_neg h,if_neg h',if_pos h2]
 have q1 : (xg == 8191) = false:=by simp [h]
 have q2 : (xs == 0) = false:=by simp [h']
 have q3 : (xs == 2) = true:=by simp [h2]
 clear h h' h2
 go_enter Tryz.func77,Tryz.ntmps77
 go_wp2_with fail
 refine zAD ((fun w'=>AtHead w' b k.t k.s k.so k.d k.who k.slot)) ((0,true) :: (1,true) :: (2,true) :: (3,true) :: (4,true) :: (5,true) :: (6,true) :: (7,true) :: (8,true) :: (9,true) :: (10,true) :: (11,true) :: (12,true) :: (13,true) :: (14,false) :: (15,false) :: (16,false) :: (17,true) :: (18,true) :: (19,false) :: []) (by kernel_rfl) (by kernel_rfl) (by kernel_rfl) (by decide) (fun _ _ _ _ _ h=>h) (hA) ?_
 repeat ((first | (refine zAC (v := ?_) rfl ?_ ?_ ?_; rotate_left 1; rfl; focus (rintro wS ⟨c0,c1,c2,c3,c4,c5⟩; go_simp <;> with_reducible rfl)) | (refine zAB rfl ?_ ?_; rfl)); try simp only [Act.put,qset])
 refine zAH rfl (fun K hK=>?_)
 go_simp
 go_at_call 70
 refine (zAZ _ _ _ _ _ _).mono ?_
 rintro r w1 ⟨rfl,hb1⟩
 (try go_wp2_with fail)
 replace HT:=zIo (HT.out.drew.later hb1)
 replace HS:=zIo (HS.out.drew.later hb1)
 clear hb1 hA
 refine hK.out _ _ (HT.out.head) (fun _=>?_)
 (try simp only [Act.put,qset])
 clear hK K
 repeat ((first | (refine zAC (v := ?_) rfl ?_ ?_ ?_; rotate_left 1; rfl; focus (rintro wS ⟨c0,c1,c2,c3,c4,c5⟩; go_simp <;> with_reducible rfl)) | (refine zAB rfl ?_ ?_; rfl)); try simp only [Act.put,qset])
 refine zAH rfl (fun K hK=>?_)
 go_simp
 go_at_call 92
 refine (zC9 base _ p c _ _ _ k.who _ j x HSL.out HS.out.mem HX.out HS.out.size hL).mono ?_
 rintro r w2 ⟨rfl,v2,hT2⟩
 (try go_wp2_with fail)
 have hlt1:=HT.out.lt
 replace HT:=zIo (HT.out.keep hT2.keep (HS.out.apart b rfl))
 replace HS:=zIo (HS.out.cells (fun i hi=>hi ▸ hlt1) hT2)
 clear hT2
 refine hK.out _ _ (HT.out.head) (fun _=>?_)
 (try simp only [Act.put,qset])
 clear hK K
 repeat ((first | (refine zAC (v := ?_) rfl ?_ ?_ ?_; rotate_left 1; rfl; focus (rintro wS ⟨c0,c1,c2,c3,c4,c5⟩; go_simp <;> with_reducible rfl)) | (refine zAB rfl ?_ ?_; rfl)); try simp only [Act.put,qset])
 refine zAH rfl (fun K hK=>?_)
 go_simp
 go_at_call 91
 refine (HU.out _).mono ?_
 rintro r w3 ⟨rfl,hb3⟩
 (try go_wp2_with fail)
 replace HT:=zIo (HT.out.later hb3)
 replace HS:=zIo (HS.out.later hb3)
 clear hb3
 refine hK.out _ _ (HT.out.head) (fun _=>?_)
 (try simp only [Act.put,qset])
 clear hK K
 obtain ⟨c0,c1,c2,c3,c4,c5,c6,c7,c8,c9,c10,c11,c12⟩:=HT.out.cl
 have f7:=HT.out.fz 7
 have f8:=HT.out.fz 8
 have f9:=HT.out.fz 9
 have f10:=HT.out.fz 10
 have f11:=HT.out.fz 11
 repeat ((first | (refine zAC (v := ?_) rfl ?_ ?_ ?_; rotate_left 1; rfl; focus (rintro wS ⟨x0,x1,x2,x3,x4,x5⟩; go_simp <;> with_reducible rfl)) | (refine zAB rfl ?_ ?_; rfl)); try simp only [Act.put,qset])
 refine zAH rfl (fun K hK=>?_)
 go_simp
 have HT4:=zIo (((((HT.out.set 7 (i64 xs)).set 8 (i64 xe)).set 9 (i64 xg)).set 10 (i64 xl)).set 11 (i64 xh))
 have HS4:=zIo (HS.out.own ((((((Keep.refl _ _).own 7 (i64 xs)).own 8 (i64 xe)).own 9 (i64 xg)).own 10 (i64 xl)).own 11 (i64 xh)))
 clear c0 c1 c2 c3 c4 c5 c6 c7 c8 c9 c10 c11 c12 f7 f8 f9 f10 f11
 refine hK.out _ _ (HT4.out.head) (fun _=>?_)
 (try simp only [Act.put,qset])
 clear hK K
 refine zAJ ?_
 obtain ⟨c0,c1,c2,c3,c4,c5,c6,c7,c8,c9,c10,c11,c12⟩:=HT4.out.cl (k := { k with ws:=xs,we:=xe,wg:=xg,wl:=xl,wh:=xh })
 have ff:=HT4.out.fz 6
 go_wp2
 go_end0
 exact ⟨rfl,_,HS4.out.own ((Keep.refl _ _).own 6 _),HT4.out.set 6 (.int .i64 1)⟩
theorem look_3 (x : Int) (h4 : x / 8 % 8192 ≠ 8191 ∧ x % 4 ≠ 0 ∧ x % 4 ≠ 2) (hk : k.Ok n m hz C) (j : Nat) (hsl : k.slot = (j : Int)) (hx : C[j]? = some x) (hT : IsObj w b k.list) (hM : IsMem base w p c v C L) (ha : ¬ Foot p c v b) (hb : base ≤ w.heap.size) (hL : L.length < 1000000000) :
  Calls Tryz.prog 77 #[pt b,pt p] w (ClPost base w b p c v (k.look m x) C (L ++ [⟨k.who,0,j,x,x,true⟩]) (.returned (.tuple #[]))):=by
 obtain ⟨hl,hhz,hlen,w0,w1,hm,m0,m1,s0,s1,g0,g1⟩:=hk
 have hnx:=hM.numAt hx
 have hU:=fun W=>zAn x W hnx.1 hnx.2
 have HS:=zIo (Does.refl (B:=(· = b)) hM (fun i hi=>hi ▸ ha) hb)
 have hA : AtHead w.drew b k.t k.s k.so k.d k.who k.slot:=hT.drew.head
 unfold Cl.look Cl.word
 generalize x % 4 = xs at hU h4 ⊢
 generalize x / 4 % 2 = xe at hU h4 ⊢
 generalize x / 8 % 8192 = xg at hU h4 ⊢
 generalize x / 65536 % 16777216 = xl at hU h4 ⊢
 generalize x / 1099511627776 = xh at hU h4 ⊢
 have HU:=zIo hU
 have HT:=zIo hT
 have HX:=zIo hx
 have HP:=zIo (fun W (hW : IsObj W b { k with ws:=xs,we:=xe,wg:=xg,wl:=xl,wh:=xh }.list)=>zBA W b { k with ws:=xs,we:=xe,wg:=xg,wl:=xl,wh:=xh } n m hl w0 w1 hm m0 m1 s0 s1 hW)
 have HSL:=zIo hsl
 clear hU hT hx hM ha hm hhz hlen hsl
 obtain ⟨h,h',h2⟩:=h4
 rw [if_neg h,if_neg h',if_neg h2]
 have q1 : (xg == 8191) = false:=by simp [h]
 have q2 : (xs == 0) = false:=by simp [h']
 have q3 : (xs == 2) = false:=by simp [h2]
 clear h h' h2
 go_enter Tryz.func77,Tryz.ntmps77
 go_wp2_with fail
 refine zAD ((fun w'=>AtHead w' b k.t k.s k.so k.d k.who k.slot)) ((0,true) :: (1,true) :: (2,true) :: (3,true) :: (4,true) :: (5,true) :: (6,true) :: (7,true) :: (8,true) :: (9,true) :: (10,true) :: (11,true) :: (12,true) :: (13,true) :: (14,false) :: (15,false) :: (16,false) :: (17,true) :: (18,true) :: (19,false) :: []) (by kernel_rfl) (by kernel_rfl) (by kernel_rfl) (by decide) (fun _ _ _ _ _ h=>h) (hA) ?_
 repeat ((first | (refine zAC (v := ?_) rfl ?_ ?_ ?_; rotate_left 1; rfl; focus (rintro wS ⟨c0,c1,c2,c3,c4,c5⟩; go_simp <;> with_reducible rfl)) | (refine zAB rfl ?_ ?_; rfl)); try simp only [Act.put,qset])
 refine zAH rfl (fun K hK=>?_)
 go_simp
 go_at_call 70
 refine (zAZ _ _ _ _ _ _).mono ?_
 rintro r w1 ⟨rfl,hb1⟩
 (try go_wp2_with fail)
 replace HT:=zIo (HT.out.drew.later hb1)
 replace HS:=zIo (HS.out.drew.later hb1)
 clear hb1 hA
 refine hK.out _ _ (HT.out.head) (fun _=>?_)
 (try simp only [Act.put,qset])
 clear hK K
 repeat ((first | (refine zAC (v := ?_) rfl ?_ ?_ ?_; rotate_left 1; rfl; focus (rintro wS ⟨c0,c1,c2,c3,c4,c5⟩; go_simp <;> with_reducible rfl)) | (refine zAB rfl ?_ ?_; rfl)); try simp only [Act.put,qset])
 refine zAH rfl (fun K hK=>?_)
 go_simp
 go_at_call 92
 refine (zC9 base _ p c _ _ _ k.who _ j x HSL.out HS.out.mem HX.out HS.out.size hL).mono ?_
 rintro r w2 ⟨rfl,v2,hT2⟩
 (try go_wp2_with fail)
 have hlt1:=HT.out.lt
 replace HT:=zIo (HT.out.keep hT2.keep (HS.out.apart b rfl))
 replace HS:=zIo (HS.out.cells (fun i hi=>hi ▸ hlt1) hT2)
 clear hT2
 refine hK.out _ _ (HT.out.head) (fun _=>?_)
 (try simp only [Act.put,qset])
 clear hK K
 repeat ((first | (refine zAC (v := ?_) rfl ?_ ?_ ?_; rotate_left 1; rfl; focus (rintro wS ⟨c0,c1,c2,c3,c4,c5⟩; go_simp <;> with_reducible rfl)) | (refine zAB rfl ?_ ?_; rfl)); try simp only [Act.put,qset])
 refine zAH rfl (fun K hK=>?_)
 go_simp
 go_at_call 91
 refine (HU.out _).mono ?_
 rintro r w3 ⟨rfl,hb3⟩
 (try go_wp2_with fail)
 replace HT:=zIo (HT.out.later hb3)
 replace HS:=zIo (HS.out.later hb3)
 clear hb3
 refine hK.out _ _ (HT.out.head) (fun _=>?_)
 (try simp only [Act.put,qset])
 clear hK K
 obtain ⟨c0,c1,c2,c3,c4,c5,c6,c7,c8,c9,c10,c11,c12⟩:=HT.out.cl
 have f7:=HT.out.fz 7
 have f8:=HT.out.fz 8
 have f9:=HT.out.fz 9
 have f10:=HT.out.fz 10
 have f11:=HT.out.fz 11
 repeat ((first | (refine zAC (v := ?_) rfl ?_ ?_ ?_; rotate_left 1; rfl; focus (rintro wS ⟨x0,x1,x2,x3,x4,x5⟩; go_simp <;> with_reducible rfl)) | (refine zAB rfl ?_ ?_; rfl)); try simp only [Act.put,qset])
 refine zAH rfl (fun K hK=>?_)
 go_simp
 have HT4:=zIo (((((HT.out.set 7 (i64 xs)).set 8 (i64 xe)).set 9 (i64 xg)).set 10 (i64 xl)).set 11 (i64 xh))
 have HS4:=zIo (HS.out.own ((((((Keep.refl _ _).own 7 (i64 xs)).own 8 (i64 xe)).own 9 (i64 xg)).own 10 (i64 xl)).own 11 (i64 xh)))
 clear c0 c1 c2 c3 c4 c5 c6 c7 c8 c9 c10 c11 c12 f7 f8 f9 f10 f11
 refine hK.out _ _ (HT4.out.head) (fun _=>?_)
 (try simp only [Act.put,qset])
 clear hK K
 refine zAJ ?_
 obtain ⟨c0,c1,c2,c3,c4,c5,c6,c7,c8,c9,c10,c11,c12⟩:=HT4.out.cl (k := { k with ws:=xs,we:=xe,wg:=xg,wl:=xl,wh:=xh })
 go_wp2_with fail
 refine (HP.out _ HT4.out).mono ?_
 rintro r w5 ⟨rfl,hT5,hK5⟩
 go_wp2
 go_end0
 exact ⟨rfl,_,HS4.out.own hK5,hT5⟩
end
end
section
section
variable (base : Nat) (w : World) (b p c : Nat) (v : Value) (C : List Int) (L : List Ev) (k : Cl) (n m : Int) (hz : Nat)
theorem zB6 (t s so d n i : Int) (j : Nat) (w : World) (h : Lay t s n) (i0 : 0 ≤ i) (i1 : i ≤ t) (hj : 2 * n + i = (j : Int)) :
  Calls Tryz.prog 94 #[cf t s so d,i64 i] w fun r w'=>r = .returned (i64 j) ∧ Below w.heap.size w w':=by
 rw [← hj]
 exact zCO t s so d n i w h i0 i1
theorem zIM (x : Int) (h4 : x = k.slot + 1) (hk : k.Ok n m hz C) (hs : 1 ≤ k.steps) (j : Nat) (hsl : 2 * n + (k.steps - 1) = (j : Int)) (hx : C[j]? = some x) (hT : IsObj w b k.list) (hM : IsMem base w p c v C L) (ha : ¬ Foot p c v b) (hb : base ≤ w.heap.size) (hL : L.length < 1000000000) :
  Calls Tryz.prog 78 #[pt b,pt p,i64 (k.steps - 1)] w (ClPost base w b p c v (k.guard m x) C (L ++ [⟨k.who,0,j,x,x,true⟩]) (.returned (.tuple #[]))):=by
 obtain ⟨hl,hhz,hlen,w0,w1,hm,m0,m1,s0,s1,g0,g1⟩:=hk
 have hn1:=hl.n1; have hn2:=hl.n2; have ht1:=hl.t1; have ht2:=hl.t2
 have HS:=zIo (Does.refl (B:=(· = b)) hM (fun i hi=>hi ▸ ha) hb)
 have hA : AtHead w.drew b k.t k.s k.so k.d k.who k.slot:=hT.drew.head
 have hu1 : IntKind.u64.wrap k.slot = k.slot:=by rw [IntKind.wrap_u64]; omega
 have hu2 : IntKind.u64.wrap (k.slot + 1) = k.slot + 1:=by rw [IntKind.wrap_u64]; omega
 have HT:=zIo hT
 have HX:=zIo hx
 have HP:=zIo (fun W (hW : IsObj W b k.list)=>zBA W b k n m hl w0 w1 hm m0 m1 s0 s1 hW)
 have HSL:=zIo hsl
 unfold Cl.guard
 rw [if_pos h4]
 have q1 : (x == k.slot + 1) = true:=by simp [h4]
 clear h4
 clear hT hx hM ha hm hhz hlen hsl
 go_enter Tryz.func78,Tryz.ntmps78
 go_wp2_with fail
 refine zAD ((fun w'=>AtHead w' b k.t k.s k.so k.d k.who k.slot)) ((0,true) :: (1,true) :: (2,true) :: (3,true) :: (4,true) :: (5,true) :: (6,true) :: (7,true) :: (8,true) :: (9,true) :: (12,true) :: (13,true) :: (14,true) :: (15,true) :: (16,true) :: (17,true) :: (10,false) :: (11,false) :: (18,true) :: []) (by kernel_rfl) (by kernel_rfl) (by kernel_rfl) (by decide) (fun _ _ _ _ _ h=>h) (hA) ?_
 repeat ((first | (refine zAC (v := ?_) rfl ?_ ?_ ?_; rotate_left 1; rfl; focus (rintro wS ⟨c0,c1,c2,c3,c4,c5⟩; go_simp <;> with_reducible rfl)) | (refine zAB rfl ?_ ?_; rfl)); try simp only [Act.put,qset])
 refine zAH rfl (fun K hK=>?_)
 go_simp
 go_at_call 94
 refine (zB6 _ _ _ _ n _ j _ hl (by omega) (by omega) HSL.out).mono ?_
 rintro r w1 ⟨rfl,hb1⟩
 (try go_wp2_with fail)
 replace HT:=zIo (HT.out.drew.later hb1)
 replace HS:=zIo (HS.out.drew.later hb1)
 clear hb1 hA
 refine hK.out _ _ (HT.out.head) (fun _=>?_)
 (try simp only [Act.put,qset])
 clear hK K
 repeat ((first | (refine zAC (v := ?_) rfl ?_ ?_ ?_; rotate_left 1; rfl; focus (rintro wS ⟨c0,c1,c2,c3,c4,c5⟩; go_simp <;> with_reducible rfl)) | (refine zAB rfl ?_ ?_; rfl)); try simp only [Act.put,qset])
 refine zAH rfl (fun K hK=>?_)
 go_simp
 go_at_call 92
 refine (zAt base _ p c _ _ _ k.who j x HS.out.mem HX.out HS.out.size hL).mono ?_
 rintro r w2 ⟨rfl,v2,hT2⟩
 (try go_wp2_with fail)
 have hlt1:=HT.out.lt
 replace HT:=zIo (HT.out.keep hT2.keep (HS.out.apart b rfl))
 replace HS:=zIo (HS.out.cells (fun i hi=>hi ▸ hlt1) hT2)
 clear hT2
 refine hK.out _ _ (HT.out.head) (fun _=>?_)
 (try simp only [Act.put,qset])
 clear hK K
 repeat ((first | (refine zAC (v := ?_) rfl ?_ ?_ ?_; rotate_left 1; rfl; focus (rintro wS ⟨c0,c1,c2,c3,c4,c5⟩; go_simp <;> with_reducible rfl)) | (refine zAB rfl ?_ ?_; rfl)); try simp only [Act.put,qset])
 refine zAJ ?_
 go_wp2_with fail
 refine (HP.out _ HT.out).mono ?_
 rintro r w5 ⟨rfl,hT5,hK5⟩
 go_wp2
 refine bodyPost_ret (results_none rfl _ _ _) rfl ?_
 exact ⟨rfl,_,HS.out.own hK5,hT5⟩
theorem zIf (x : Int) (h4 : x ≠ k.slot + 1 ∧ k.steps = k.t) (hk : k.Ok n m hz C) (hs : 1 ≤ k.steps) (j : Nat) (hsl : 2 * n + (k.steps - 1) = (j : Int)) (hx : C[j]? = some x) (hT : IsObj w b k.list) (hM : IsMem base w p c v C L) (ha : ¬ Foot p c v b) (hb : base ≤ w.heap.size) (hL : L.length < 1000000000) :
  Calls Tryz.prog 78 #[pt b,pt p,i64 (k.steps - 1)] w (ClPost base w b p c v (k.guard m x) C (L ++ [⟨k.who,0,j,x,x,true⟩]) (.returned (.tuple #[]))):=by
 obtain ⟨hl,hhz,hlen,w0,w1,hm,m0,m1,s0,s1,g0,g1⟩:=hk
 have hn1:=hl.n1; have hn2:=hl.n2; have ht1:=hl.t1; have ht2:=hl.t2
 have HS:=zIo (Does.refl (B:=(· = b)) hM (fun i hi=>hi ▸ ha) hb)
 have hA : AtHead w.drew b k.t k.s k.so k.d k.who k.slot:=hT.drew.head
 have hu1 : IntKind.u64.wrap k.slot = k.slot:=by rw [IntKind.wrap_u64]; omega
 have hu2 : IntKind.u64.wrap (k.slot + 1) = k.slot + 1:=by rw [IntKind.wrap_u64]; omega
 have HT:=zIo hT
 have HX:=zIo hx
 have HP:=zIo (fun W (hW : IsObj W b k.list)=>zBA W b k n m hl w0 w1 hm m0 m1 s0 s1 hW)
 have HSL:=zIo hsl
 unfold Cl.guard
 obtain ⟨h1,h2⟩:=h4
 rw [if_neg h1,if_pos h2]
 have q1 : (x == k.slot + 1) = false:=by simp [h1]
 have q2 : (k.steps - 1 == k.t - 1) = true:=by simp; omega
 clear h1 h2
 clear hT hx hM ha hm hhz hlen hsl
 go_enter Tryz.func78,Tryz.ntmps78
 go_wp2_with fail
 refine zAD ((fun w'=>AtHead w' b k.t k.s k.so k.d k.who k.slot)) ((0,true) :: (1,true) :: (2,true) :: (3,true) :: (4,true) :: (5,true) :: (6,true) :: (7,true) :: (8,true) :: (9,true) :: (12,true) :: (13,true) :: (14,true) :: (15,true) :: (16,true) :: (17,true) :: (10,false) :: (11,false) :: (18,true) :: []) (by kernel_rfl) (by kernel_rfl) (by kernel_rfl) (by decide) (fun _ _ _ _ _ h=>h) (hA) ?_
 repeat ((first | (refine zAC (v := ?_) rfl ?_ ?_ ?_; rotate_left 1; rfl; focus (rintro wS ⟨c0,c1,c2,c3,c4,c5⟩; go_simp <;> with_reducible rfl)) | (refine zAB rfl ?_ ?_; rfl)); try simp only [Act.put,qset])
 refine zAH rfl (fun K hK=>?_)
 go_simp
 go_at_call 94
 refine (zB6 _ _ _ _ n _ j _ hl (by omega) (by omega) HSL.out).mono ?_
 rintro r w1 ⟨rfl,hb1⟩
 (try go_wp2_with fail)
 replace HT:=zIo (HT.out.drew.later hb1)
 replace HS:=zIo (HS.out.drew.later hb1)
 clear hb1 hA
 refine hK.out _ _ (HT.out.head) (fun _=>?_)
 (try simp only [Act.put,qset])
 clear hK K
 repeat ((first | (refine zAC (v := ?_) rfl ?_ ?_ ?_; rotate_left 1; rfl; focus (rintro wS ⟨c0,c1,c2,c3,c4,c5⟩; go_simp <;> with_reducible rfl)) | (refine zAB rfl ?_ ?_; rfl)); try simp only [Act.put,qset])
 refine zAH rfl (fun K hK=>?_)
 go_simp
 go_at_call 92
 refine (zAt base _ p c _ _ _ k.who j x HS.out.mem HX.out HS.out.size hL).mono ?_
 rintro r w2 ⟨rfl,v2,hT2⟩
 (try go_wp2_with fail)
 have hlt1:=HT.out.lt
 replace HT:=zIo (HT.out.keep hT2.keep (HS.out.apart b rfl))
 replace HS:=zIo (HS.out.cells (fun i hi=>hi ▸ hlt1) hT2)
 clear hT2
 refine hK.out _ _ (HT.out.head) (fun _=>?_)
 (try simp only [Act.put,qset])
 clear hK K
 repeat ((first | (refine zAC (v := ?_) rfl ?_ ?_ ?_; rotate_left 1; rfl; focus (rintro wS ⟨c0,c1,c2,c3,c4,c5⟩; go_simp <;> with_reducible rfl)) | (refine zAB rfl ?_ ?_; rfl)); try simp only [Act.put,qset])
 refine zAJ ?_
 obtain ⟨c0,c1,c2,c3,c4,c5,c6,c7,c8,c9,c10,c11,c12⟩:=HT.out.cl
 have ff:=HT.out.fz 12
 go_wp2
 refine bodyPost_ret (results_none rfl _ _ _) rfl ?_
 exact ⟨rfl,_,HS.out.own ((Keep.refl _ _).own 12 _),HT.out.set 12 (.int .i64 1)⟩
theorem zII (x : Int) (h4 : x ≠ k.slot + 1 ∧ ¬ k.steps = k.t) (hk : k.Ok n m hz C) (hs : 1 ≤ k.steps) (j : Nat) (hsl : 2 * n + (k.steps - 1) = (j : Int)) (hx : C[j]? = some x) (hT : IsObj w b k.list) (hM : IsMem base w p c v C L) (ha : ¬ Foot p c v b) (hb : base ≤ w.heap.size) (hL : L.length < 1000000000) :
  Calls Tryz.prog 78 #[pt b,pt p,i64 (k.steps - 1)] w (ClPost base w b p c v (k.guard m x) C (L ++ [⟨k.who,0,j,x,x,true⟩]) (.returned (.tuple #[]))):=by
 obtain ⟨hl,hhz,hlen,w0,w1,hm,m0,m1,s0,s1,g0,g1⟩:=hk
 have hn1:=hl.n1; have hn2:=hl.n2; have ht1:=hl.t1; have ht2:=hl.t2
 have HS:=zIo (Does.refl (B:=(· = b)) hM (fun i hi=>hi ▸ ha) hb)
 have hA : AtHead w.drew b k.t k.s k.so k.d k.who k.slot:=hT.drew.head
 have hu1 : IntKind.u64.wrap k.slot = k.slot:=by rw [IntKind.wrap_u64]; omega
 have hu2 : IntKind.u64.wrap (k.slot + 1) = k.slot + 1:=by rw [IntKind.wrap_u64]; omega
 have HT:=zIo hT
 have HX:=zIo hx
 have HP:=zIo (fun W (hW : IsObj W b k.list)=>zBA W b k n m hl w0 w1 hm m0 m1 s0 s1 hW)
 have HSL:=zIo hsl
 unfold Cl.guard
 obtain ⟨h1,h2⟩:=h4
 rw [if_neg h1,if_neg h2]
 have q1 : (x == k.slot + 1) = false:=by simp [h1]
 have q2 : (k.steps - 1 == k.t - 1) = false:=by simp; omega
 clear h1 h2
 clear hT hx hM ha hm hhz hlen hsl
 go_enter Tryz.func78,Tryz.ntmps78
 go_wp2_with fail
 refine zAD ((fun w'=>AtHead w' b k.t k.s k.so k.d k.who k.slot)) ((0,true) :: (1,true) :: (2,true) :: (3,true) :: (4,true) :: (5,true) :: (6,true) :: (7,true) :: (8,true) :: (9,true) :: (12,true) :: (13,true) :: (14,true) :: (15,true) :: (16,true) :: (17,true) :: (10,false) :: (11,false) :: (18,true) :: []) (by kernel_rfl) (by kernel_rfl) (by kernel_rfl) (by decide) (fun _ _ _ _ _ h=>h) (hA) ?_
 repeat ((first | (refine zAC (v := ?_) rfl ?_ ?_ ?_; rotate_left 1; rfl; focus (rintro wS ⟨c0,c1,c2,c3,c4,c5⟩; go_simp <;> with_reducible rfl)) | (refine zAB rfl ?_ ?_; rfl)); try simp only [Act.put,qset])
 refine zAH rfl (fun K hK=>?_)
 go_simp
 go_at_call 94
 refine (zB6 _ _ _ _ n _ j _ hl (by omega) (by omega) HSL.out).mono ?_
 rintro r w1 ⟨rfl,hb1⟩
 (try go_wp2_with fail)
 replace HT:=zIo (HT.out.drew.later hb1)
 replace HS:=zIo (HS.out.drew.later hb1)
 clear hb1 hA
 refine hK.out _ _ (HT.out.head) (fun _=>?_)
 (try simp only [Act.put,qset])
 clear hK K
 repeat ((first | (refine zAC (v := ?_) rfl ?_ ?_ ?_; rotate_left 1; rfl; focus (rintro wS ⟨c0,c1,c2,c3,c4,c5⟩; go_simp <;> with_reducible rfl)) | (refine zAB rfl ?_ ?_; rfl)); try simp only [Act.put,qset])
 refine zAH rfl (fun K hK=>?_)
 go_simp
 go_at_call 92
 refine (zAt base _ p c _ _ _ k.who j x HS.out.mem HX.out HS.out.size hL).mono ?_
 rintro r w2 ⟨rfl,v2,hT2⟩
 (try go_wp2_with fail)
 have hlt1:=HT.out.lt
 replace HT:=zIo (HT.out.keep hT2.keep (HS.out.apart b rfl))
 replace HS:=zIo (HS.out.cells (fun i hi=>hi ▸ hlt1) hT2)
 clear hT2
 refine hK.out _ _ (HT.out.head) (fun _=>?_)
 (try simp only [Act.put,qset])
 clear hK K
 repeat ((first | (refine zAC (v := ?_) rfl ?_ ?_ ?_; rotate_left 1; rfl; focus (rintro wS ⟨c0,c1,c2,c3,c4,c5⟩; go_simp <;> with_reducible rfl)) | (refine zAB rfl ?_ ?_; rfl)); try simp only [Act.put,qset])
 refine zAJ ?_
 obtain ⟨c0,c1,c2,c3,c4,c5,c6,c7,c8,c9,c10,c11,c12⟩:=HT.out.cl
 have ff:=HT.out.fz 6
 go_wp2
 go_end0
 exact ⟨rfl,_,HS.out.own ((Keep.refl _ _).own 6 _),HT.out.set 6 (.int .i64 (k.steps + 1))⟩
theorem zHs (x : Int) (hk : k.Ok n m hz C) (j : Nat) (hsl : k.slot = (j : Int)) (hx : C[j]? = some x) (hT : IsObj w b k.list) (hM : IsMem base w p c v C L) (ha : ¬ Foot p c v b) (hb : base ≤ w.heap.size) (hL : L.length < 1000000000) :
  Calls Tryz.prog 77 #[pt b,pt p] w (ClPost base w b p c v (k.look m x) C (L ++ [⟨k.who,0,j,x,x,true⟩]) (.returned (.tuple #[]))):=by
 by_cases h1 : x / 8 % 8192 = 8191
 ·exact look_0 base w b p c v C L k n m hz x h1 hk j hsl hx hT hM ha hb hL
 ·by_cases h2 : x % 4 = 0
  ·exact look_1 base w b p c v C L k n m hz x ⟨h1,h2⟩ hk j hsl hx hT hM ha hb hL
  ·by_cases h3 : x % 4 = 2
   ·exact look_2 base w b p c v C L k n m hz x ⟨h1,h2,h3⟩ hk j hsl hx hT hM ha hb hL
   ·exact look_3 base w b p c v C L k n m hz x ⟨h1,h2,h3⟩ hk j hsl hx hT hM ha hb hL
theorem zGQ (x : Int) (hk : k.Ok n m hz C) (hs : 1 ≤ k.steps) (j : Nat) (hsl : 2 * n + (k.steps - 1) = (j : Int)) (hx : C[j]? = some x) (hT : IsObj w b k.list) (hM : IsMem base w p c v C L) (ha : ¬ Foot p c v b) (hb : base ≤ w.heap.size) (hL : L.length < 1000000000) :
  Calls Tryz.prog 78 #[pt b,pt p,i64 (k.steps - 1)] w (ClPost base w b p c v (k.guard m x) C (L ++ [⟨k.who,0,j,x,x,true⟩]) (.returned (.tuple #[]))):=by
 by_cases h1 : x = k.slot + 1
 ·exact zIM base w b p c v C L k n m hz x h1 hk hs j hsl hx hT hM ha hb hL
 ·by_cases h2 : k.steps = k.t
  ·exact zIf base w b p c v C L k n m hz x ⟨h1,h2⟩ hk hs j hsl hx hT hM ha hb hL
  ·exact zII base w b p c v C L k n m hz x ⟨h1,h2⟩ hk hs j hsl hx hT hM ha hb hL
theorem zEC (hp : k.ph ≠ 0) (hT : IsObj w b k.list) (hM : IsMem base w p c v C L) (ha : ¬ Foot p c v b) (hb : base ≤ w.heap.size) :
  Calls Tryz.prog 62 #[pt b,pt p] w (ClPost base w b p c v k C L (.returned (i64 k.ph))):=by
 have qp : (k.ph != 0) = true:=by simp [hp]
 have HS:=zIo (Does.refl (B:=(· = b)) hM (fun i hi=>hi ▸ ha) hb)
 have HT:=zIo hT
 obtain ⟨c0,c1,c2,c3,c4,c5,c6,c7,c8,c9,c10,c11,c12⟩:=hT.cl
 clear hT hM ha hp
 go_enter Tryz.func62,Tryz.ntmps62
 go_wp2
 go_ret
 exact ⟨rfl,_,HS.out,HT.out⟩
theorem zEO (k1 : Cl) (C1 : List Int) (L1 : List Ev) (hp : k.ph = 0) (hs : k.steps = 0) (hT : IsObj w b k.list)
  (hin : Calls Tryz.prog 77 #[pt b,pt p] w (ClPost base w b p c v k1 C1 L1 (.returned (.tuple #[])))) :
  Calls Tryz.prog 62 #[pt b,pt p] w (ClPost base w b p c v k1 C1 L1 (.returned (i64 k1.ph))):=by
 have qp : (k.ph != 0) = false:=by simp [hp]
 have qs : (k.steps == 0) = true:=by simp [hs]
 have HIN:=zIo hin
 obtain ⟨c0,c1,c2,c3,c4,c5,c6,c7,c8,c9,c10,c11,c12⟩:=hT.cl
 clear hin hs hp hT
 go_enter Tryz.func62,Tryz.ntmps62
 go_wp2_with fail
 refine HIN.out.mono ?_
 rintro r w1 ⟨rfl,v1,hS,hT1⟩
 have HT1:=zIo hT1
 have HS:=zIo hS
 clear c0 c1 c2 c3 c4 c5 c6 c7 c8 c9 c10 c11 c12 hS
 obtain ⟨c0,c1,c2,c3,c4,c5,c6,c7,c8,c9,c10,c11,c12⟩:=hT1.cl
 clear hT1
 go_wp2
 go_ret
 exact ⟨rfl,_,HS.out,HT1.out⟩
theorem zDn (k1 : Cl) (C1 : List Int) (L1 : List Ev) (hp : k.ph = 0) (hs : 1 ≤ k.steps) (hs2 : k.steps ≤ 64) (hT : IsObj w b k.list)
  (hin : Calls Tryz.prog 78 #[pt b,pt p,i64 (k.steps - 1)] w (ClPost base w b p c v k1 C1 L1 (.returned (.tuple #[])))) :
  Calls Tryz.prog 62 #[pt b,pt p] w (ClPost base w b p c v k1 C1 L1 (.returned (i64 k1.ph))):=by
 have qp : (k.ph != 0) = false:=by simp [hp]
 have qs : (k.steps == 0) = false:=by simp; omega
 have HIN:=zIo hin
 obtain ⟨c0,c1,c2,c3,c4,c5,c6,c7,c8,c9,c10,c11,c12⟩:=hT.cl
 clear hin hp hT
 go_enter Tryz.func62,Tryz.ntmps62
 go_wp2_with fail
 refine HIN.out.mono ?_
 rintro r w1 ⟨rfl,v1,hS,hT1⟩
 have HT1:=zIo hT1
 have HS:=zIo hS
 clear c0 c1 c2 c3 c4 c5 c6 c7 c8 c9 c10 c11 c12 hS
 obtain ⟨c0,c1,c2,c3,c4,c5,c6,c7,c8,c9,c10,c11,c12⟩:=hT1.cl
 clear hT1
 go_wp2
 go_ret
 exact ⟨rfl,_,HS.out,HT1.out⟩
theorem zFJ (hk : k.Ok n m hz C) (hT : IsObj w b k.list) (hM : IsMem base w p c v C L) (ha : ¬ Foot p c v b) (hb : base ≤ w.heap.size) (hL : L.length < 1000000000) :
  Calls Tryz.prog 62 #[pt b,pt p] w (ClPost base w b p c v (k.step m hz C) C (L ++ k.ev hz C) (.returned (i64 (k.step m hz C).ph))):=by
 have hn1:=hk.lay.n1; have hn2:=hk.lay.n2; have ht1:=hk.lay.t1; have ht2:=hk.lay.t2
 have h1:=hk.hz; have h2:=hk.len; have h3:=hk.m0; have h4:=hk.m1; have h5:=hk.s0; have h6:=hk.s1; have h7:=hk.g0; have h8:=hk.g1
 unfold Cl.step Cl.ev
 by_cases hp : k.ph = 0
 ·rw [if_pos hp,if_pos hp]
  by_cases hs : k.steps = 0
  ·rw [if_pos hs]
   have hc : k.cell hz = k.slot.toNat:=if_pos hs
   rw [hc]
   exact zEO base w b p c v k _ _ _ hp hs hT (zHs base w b p c v C L k n m hz _ hk k.slot.toNat (by omega) (zBc (by omega)) hT hM ha hb hL)
  ·rw [if_neg hs]
   have hc : k.cell hz = hz + (k.steps - 1).toNat:=if_neg hs
   rw [hc]
   exact zDn base w b p c v k _ _ _ hp (by omega) (by omega) hT (zGQ base w b p c v C L k n m hz _ hk (by omega) _ (by omega) (zBc (by omega)) hT hM ha hb hL)
 ·rw [if_neg hp,if_neg hp,List.append_nil]
  exact zEC base w b p c v C L k hp hT hM ha hb
theorem zC2 (hT : IsObj w b k.list) : Calls Tryz.prog 66 #[pt b] w fun r w'=>r = .returned (i64 k.slot) ∧ w = w':=by
 obtain ⟨c0,c1,c2,c3,c4,c5,c6,c7,c8,c9,c10,c11,c12⟩:=hT.cl
 go_enter Tryz.func66,Tryz.ntmps66
 go_wp2
 go_ret
 exact ⟨rfl,rfl⟩
theorem zC3 (hp : k.ph = 1) (hT : IsObj w b k.list) : Calls Tryz.prog 67 #[pt b] w fun r w'=>r = .returned (wd k.ws k.we k.wg k.wl k.wh) ∧ Below w.heap.size w w':=by
 have q : (k.ph != 1) = false:=by simp [hp]
 have hlt:=hT.lt
 obtain ⟨c0,c1,c2,c3,c4,c5,c6,c7,c8,c9,c10,c11,c12⟩:=hT.cl
 clear hp hT
 go_enter Tryz.func67,Tryz.ntmps67
 go_wp2
 exact bodyPost_ret (v:=wd k.ws k.we k.wg k.wl k.wh) (by simp [results,Tryz.results67,go_sem]) rfl ⟨rfl,by first | exact zAG (zAG (zAG (zAG (zAG (zAA (Below.refl _ _) _) (by simp) _) (by simp) _) (by simp) _) (by simp) _) (by simp) _ | exact zAA (Below.refl _ _) _⟩
def cl0 (t s so d who m : Int) : Cl:=⟨t,s,so,d,who,m,0,0,0,0,0,0,0⟩
theorem zFs (t s so d who : Int) (hl : Lay t s n) (w0 : 0 ≤ who) (w1 : who < t) (hm : who * s = m) (m0 : 0 ≤ m) (m1 : m + s ≤ n) :
  Calls Tryz.prog 47 #[cf t s so d,i64 who] w fun r w' => ∃ b,r = .returned (pt b) ∧ IsObj w' b (cl0 t s so d who m).list ∧ Below w.heap.size w w' ∧ w.heap.size ≤ b:=by
 have Hm:=zIo hm
 have hs1:=hl.s1
 clear hm
 go_enter Tryz.func47,Tryz.ntmps47
 go_wp2_with fail
 refine zAN ((0,true) :: (1,true) :: (2,true) :: (3,true) :: (4,false) :: (5,true) :: (6,false) :: (7,true) :: []) (by kernel_rfl) (by kernel_rfl) (by kernel_rfl) (by decide) (fun _ _ _ _ _ h=>h) (fun hHeld=>?_)
 repeat (first
  | (refine zAC (v := ?_) rfl ?_ ?_ ?_; rotate_left 1; rfl; (focus (intro wS hSw; have hk:=zAM hSw; go_simp; first | done | with_reducible rfl)); (try simp only [Act.put,qset]))
  | (refine zAB rfl ?_ ?_; rfl; (try simp only [Act.put,qset]))
  | (refine zAH rfl (fun K hK=>?_); go_simp; (try (first | (go_at_call 60; refine (zBx t s so d n who m _ hl w0 w1 Hm.out m0 (by omega)).mono ?_; rintro e w' ⟨rfl,hb'⟩))); (try go_wp2_with fail); refine hK.out _ _ ?_ ?_; (focus (first | exact zAE hHeld hb' | exact zAA hHeld _ | exact hHeld)); (try clear hb'); clear hHeld hK K; intro hHeld; (try simp only [Act.put,qset])))
 first | refine zAJ ?_ | skip
 go_wp2
 go_ret
 have hs:=hHeld.size
 simp only [World.alloc,Array.size_push] at hs
 exact ⟨_,rfl,IsObj.made w' (cl0 t s so d who m).list 142,zAE (zAA (Below.refl _ _) _) hHeld,by omega⟩
end
end
section
section
variable {W w w' : World} {p c b : Nat} {v v' : Value} {C C' : List Int} {L L' : List Ev} {k k' : Cl} {R : List Thing}
end
theorem Cl.ev_le (k : Cl) (hz : Nat) (C : List Int) : (k.ev hz C).length ≤ 1:=by
 unfold Cl.ev
 split <;> simp
end
section
def usable (C : List Int) (t : Int) (hz : Nat) (slot : Int) : Prop :=
 C.getD slot.toNat 0 / 8 % 8192 ≠ 8191 ∧ (C.getD slot.toNat 0 % 4 = 0 ∨ (C.getD slot.toNat 0 % 4 = 2 ∧ ∀ h : Nat,(h : Int) < t → C.getD (hz + h) 0 ≠ slot + 1))
def Cl.holds (k : Cl) (C : List Int) : Prop :=
 k.ws = C.getD k.slot.toNat 0 % 4 ∧ k.we = C.getD k.slot.toNat 0 / 4 % 2 ∧ k.wg = C.getD k.slot.toNat 0 / 8 % 8192 ∧ k.wl = C.getD k.slot.toNat 0 / 65536 % 16777216 ∧ k.wh = C.getD k.slot.toNat 0 / 1099511627776
structure Fd (k : Cl) (C : List Int) (n m : Int) (hz : Nat) (i : Int) : Prop where
 ok : k.Ok n m hz C
 no : ∀ j,m ≤ j → j < k.slot → ¬ usable C k.t hz j
 i0 : k.ph = 0 → i ≤ (k.slot - m) * (k.t + 1) + k.steps
 g : k.ph = 0 → 1 ≤ k.steps → (C.getD k.slot.toNat 0 / 8 % 8192 ≠ 8191 ∧ C.getD k.slot.toNat 0 % 4 = 2 ∧ ∀ h : Nat,(h : Int) < k.steps - 1 → C.getD (hz + h) 0 ≠ k.slot + 1) ∧ k.holds C
 p1 : k.ph = 1 → usable C k.t hz k.slot ∧ k.holds C
 p2 : k.ph = 2 → k.slot = m + k.s - 1 ∧ ¬ usable C k.t hz k.slot
 pr : k.ph = 0 ∨ k.ph = 1 ∨ k.ph = 2
def Cl.Same (k k' : Cl) : Prop:=k'.t = k.t ∧ k'.s = k.s ∧ k'.who = k.who
section
variable {k : Cl} {C : List Int} {n m i : Int} {hz : Nat}
theorem Cl.pass_same (k : Cl) (m : Int) : k.Same (k.pass m):=by
 unfold Cl.pass
 split <;> exact ⟨rfl,rfl,rfl⟩
theorem Cl.step_same (k : Cl) (m : Int) (hz : Nat) (C : List Int) : k.Same (k.step m hz C):=by
 unfold Cl.step
 split
 ·split
  ·unfold Cl.look
   split
   ·exact Cl.pass_same (k.word _) m
   ·split
    ·exact ⟨rfl,rfl,rfl⟩
    ·split
     ·exact ⟨rfl,rfl,rfl⟩
     ·exact Cl.pass_same (k.word _) m
  ·unfold Cl.guard
   split
   ·exact Cl.pass_same k m
   ·split <;> exact ⟨rfl,rfl,rfl⟩
 ·exact ⟨rfl,rfl,rfl⟩
theorem Fd.pass (h1 : k.Ok n m hz C) (hp : k.ph = 0) (hno : ∀ j,m ≤ j → j < k.slot → ¬ usable C k.t hz j) (hu : ¬ usable C k.t hz k.slot) (hi : i ≤ (k.slot - m) * (k.t + 1) + k.steps) : Fd (k.pass m) C n m hz (i + 1):=by
 obtain ⟨l,h2,h3,w0,w1,hm,m0,m1,s0,s1,g0,g1⟩:=h1
 have ht1:=l.t1
 unfold Cl.pass
 by_cases he : k.slot = m + k.s - 1
 ·rw [if_pos he]
  exact ⟨⟨l,h2,h3,w0,w1,hm,m0,m1,s0,s1,g0,g1⟩,hno,(fun h=>by simp at h),(fun h=>by simp at h),(fun h=>by simp at h),fun _=>⟨he,hu⟩,.inr (.inr rfl)⟩
 ·rw [if_neg he]
  refine ⟨⟨l,h2,h3,w0,w1,hm,m0,m1,by show m ≤ k.slot + 1; omega,by show k.slot + 1 < m + k.s; omega,Int.le_refl _,by show 0 ≤ k.t; omega⟩,fun j hj hj2=>?_,fun _=>?_,(fun _ h=>by simp at h),fun h=>?_,fun h=>?_,.inl hp⟩
  ·have hj3 : j < k.slot + 1:=hj2
   rcases (by omega : j < k.slot ∨ j = k.slot) with h | rfl
   ·exact hno j hj h
   ·exact hu
  ·show i + 1 ≤ (k.slot + 1 - m) * (k.t + 1) + 0
   rw [show k.slot + 1 - m = (k.slot - m) + 1 by omega,Int.add_mul,Int.one_mul]
   omega
  ·have h' : k.ph = 1:=h
   omega
  ·have h' : k.ph = 2:=h
   omega
theorem Fd.step (h : Fd k C n m hz i) : Fd (k.step m hz C) C n m hz (i + 1):=by
 have hok:=h.ok
 have hno:=h.no
 obtain ⟨l,h2,h3,w0,w1,hm,m0,m1,s0,s1,g0,g1⟩:=id hok
 have ht1:=l.t1
 unfold Cl.step
 by_cases hp : k.ph = 0
 ·rw [if_pos hp]
  have hi:=h.i0 hp
  by_cases hs : k.steps = 0
  ·rw [if_pos hs]
   have hc : k.cell hz = k.slot.toNat:=if_pos hs
   rw [hc]
   have hh : (k.word (C.getD k.slot.toNat 0)).holds C:=⟨rfl,rfl,rfl,rfl,rfl⟩
   have hok2 : (k.word (C.getD k.slot.toNat 0)).Ok n m hz C:=⟨l,h2,h3,w0,w1,hm,m0,m1,s0,s1,g0,g1⟩
   unfold Cl.look
   split
   ·rename_i hx
    exact Fd.pass hok2 hp hno (fun hu=>hu.1 hx) hi
   ·rename_i hx
    split
    ·rename_i h0
     exact ⟨⟨l,h2,h3,w0,w1,hm,m0,m1,s0,s1,g0,g1⟩,hno,(fun h=>by simp at h),(fun h=>by simp at h),fun _=>⟨⟨hx,.inl h0⟩,hh⟩,(fun h=>by simp at h),.inr (.inl rfl)⟩
    ·rename_i h0
     split
     ·rename_i h4
      refine ⟨⟨l,h2,h3,w0,w1,hm,m0,m1,s0,s1,by show (0 : Int) ≤ 1; decide,ht1⟩,hno,fun _=>?_,fun _ _=>⟨⟨hx,h4,fun e he=>by have he' : (e : Int) < 1 - 1:=he; omega⟩,hh⟩,fun h=>?_,fun h=>?_,.inl hp⟩
      ·show i + 1 ≤ (k.slot - m) * (k.t + 1) + 1
       omega
      ·have h' : k.ph = 1:=h
       omega
      ·have h' : k.ph = 2:=h
       omega
     ·rename_i h4
      exact Fd.pass hok2 hp hno (fun hu=>by
       rcases hu.2 with h5 | ⟨h5,_⟩
       ·exact h0 h5
       ·exact h4 h5) hi
  ·rw [if_neg hs]
   obtain ⟨⟨a1,a2,a3⟩,hh⟩:=h.g hp (by omega)
   have hc : k.cell hz = hz + (k.steps - 1).toNat:=if_neg hs
   rw [hc]
   unfold Cl.guard
   split
   ·rename_i hx
    refine Fd.pass hok hp hno (fun hu=>?_) hi
    rcases hu.2 with h5 | ⟨_,h5⟩
    ·omega
    ·exact h5 (k.steps - 1).toNat (by omega) hx
   ·rename_i hx
    have hall : ∀ e : Nat,(e : Int) < k.steps → C.getD (hz + e) 0 ≠ k.slot + 1:=fun e he=>by
     rcases (by omega : (e : Int) < k.steps - 1 ∨ e = (k.steps - 1).toNat) with h5 | rfl
     ·exact a3 e h5
     ·exact hx
    split
    ·rename_i ht
     exact ⟨⟨l,h2,h3,w0,w1,hm,m0,m1,s0,s1,g0,g1⟩,hno,(fun h=>by simp at h),(fun h=>by simp at h),fun _=>⟨⟨a1,.inr ⟨a2,fun e he=>hall e (by have he' : (e : Int) < k.t:=he; omega)⟩⟩,hh⟩,(fun h=>by simp at h),.inr (.inl rfl)⟩
    ·rename_i ht
     refine ⟨⟨l,h2,h3,w0,w1,hm,m0,m1,s0,s1,by show 0 ≤ k.steps + 1; omega,by show k.steps + 1 ≤ k.t; omega⟩,hno,fun _=>?_,fun _ _=>⟨⟨a1,a2,fun e he=>hall e (by have he' : (e : Int) < k.steps + 1 - 1:=he; omega)⟩,hh⟩,fun h=>?_,fun h=>?_,.inl hp⟩
     ·show i + 1 ≤ (k.slot - m) * (k.t + 1) + (k.steps + 1)
      omega
     ·have h' : k.ph = 1:=h
      omega
     ·have h' : k.ph = 2:=h
      omega
 ·rw [if_neg hp]
  exact ⟨hok,hno,fun h=>absurd h hp,fun h=>absurd h hp,h.p1,h.p2,h.pr⟩
theorem Fd.start (t s so d who : Int) (hl : Lay t s n) (h2 : (hz : Int) = 2 * n) (h3 : (C.length : Int) = 2 * n + 2 * t) (w0 : 0 ≤ who) (w1 : who < t) (hm : who * s = m) (m0 : 0 ≤ m) (m1 : m + s ≤ n) : Fd (cl0 t s so d who m) C n m hz 0 :=
 ⟨⟨hl,h2,h3,w0,w1,hm,m0,m1,Int.le_refl _,by show m < m + s; have:=hl.s1; omega,Int.le_refl _,by show 0 ≤ t; have:=hl.t1; omega⟩,fun j hj hj2=>by have h : j < m:=hj2; omega,fun _=>by show (0 : Int) ≤ (m - m) * (t + 1) + 0; rw [Int.sub_self,Int.zero_mul]; decide,(fun _ h=>by simp [cl0] at h),(fun h=>by simp [cl0] at h),(fun h=>by simp [cl0] at h),.inl rfl⟩
end
end
section
end
section
end
section
theorem zAp (k : Tk) (x y : Int) : (fin k x y).t = k.t ∧ (fin k x y).s = k.s ∧ (fin k x y).so = k.so ∧ (fin k x y).d = k.d ∧ (fin k x y).who = k.who ∧ (fin k x y).steps = k.steps ∧ (fin k x y).seen = k.seen ∧ 1 ≤ (fin k x y).ph ∧ (fin k x y).ph ≤ 2:=by
 unfold fin
 split <;> simp
theorem zBi (nb : Nat) (k : Tk) (C : List Int) (now : Int) : (stp nb k C now).1.t = k.t ∧ (stp nb k C now).1.s = k.s ∧ (stp nb k C now).1.so = k.so ∧ (stp nb k C now).1.d = k.d ∧ (stp nb k C now).1.who = k.who ∧ (stp nb k C now).2.1.length = C.length:=by
 unfold stp
 repeat' split
 all_goals
  first
  | (have h1:=zAp { k with steps:=k.steps + 1 } (low (C.getD nb 0)) (low (C.getD nb 0)); have h2:=zAp { k with steps:=k.steps + 1 } k.seen (low (C.getD nb 0) - 1); have h3:=zAp { k with steps:=k.steps + 1 } k.seen k.seen; have h4:=zAp { k with steps:=k.steps + 1,seen:=if k.steps = 0 then low now else k.seen } (if k.steps = 0 then low now else k.seen) (low now); simp_all; done)
  | (unfold fin; split <;> simp; done)
  | (simp; done)
theorem stp_ok (nb : Nat) (n : Int) (k : Tk) (C : List Int) (now : Int) (h : k.Ok nb n C) (hs : k.steps < 1000000) (n0 : 0 ≤ now) (hC : ∀ j,0 ≤ C.getD j 0) : (stp nb k C now).1.Ok nb n (stp nb k C now).2.1:=by
 obtain ⟨e1,e2,e3,e4,e5,e6⟩:=zBi nb k C now
 have hlow : ∀ x,0 ≤ x → 0 ≤ low x ∧ low x ≤ 16777215:=fun x hx=>by unfold low; omega
 have hln:=hlow now n0
 have hlx:=hlow _ (hC nb)
 have hly:=hlow _ (hC (nb + k.steps.toNat))
 have key : 0 ≤ (stp nb k C now).1.steps ∧ (stp nb k C now).1.steps ≤ 1000000 ∧ 0 ≤ (stp nb k C now).1.seen ∧ (stp nb k C now).1.seen ≤ 16777215 ∧ 0 ≤ (stp nb k C now).1.ph ∧ (stp nb k C now).1.ph ≤ 2 ∧ (k.so = 2 → 1 ≤ (stp nb k C now).1.steps → (stp nb k C now).1.ph = 0 → (stp nb k C now).1.seen < 16777215):=by
  have h1:=h.s0; have h2:=h.s1; have h3:=h.e0; have h4:=h.e1; have h5:=h.p0; have h6:=h.p1; have h7:=h.sw
  have f1:=zAp { k with steps:=k.steps + 1 } (low (C.getD nb 0)) (low (C.getD nb 0)); have f2:=zAp { k with steps:=k.steps + 1 } k.seen (low (C.getD nb 0) - 1); have f3:=zAp { k with steps:=k.steps + 1 } k.seen k.seen
  have f4:=zAp { k with steps:=k.steps + 1,seen:=if k.steps = 0 then low now else k.seen } (if k.steps = 0 then low now else k.seen) (low now)
  have f6:=zAp { k with steps:=k.steps + 1 } k.seen (low now)
  have f7:=zAp { k with steps:=k.steps + 1,seen:=low now } (low now) (low now)
  have f5 : 0 ≤ (if k.steps = 0 then low now else k.seen) ∧ (if k.steps = 0 then low now else k.seen) ≤ 16777215:=by split <;> omega
  unfold stp
  simp only at f1 f2 f3 f4 f6 f7
  repeat' split
  all_goals simp only
  all_goals first | omega | (split <;> omega)
 exact ⟨by rw [e1,e2]; exact h.lay,by rw [e1]; exact h.nt,by rw [e6,e1]; exact h.len,by rw [e5]; exact h.w0,by rw [e5,e1]; exact h.w1,key.1,key.2.1,key.2.2.1,key.2.2.2.1,by rw [e3]; exact h.o0,by rw [e3]; exact h.o1,by rw [e4]; exact h.d0,by rw [e4]; exact h.d1,key.2.2.2.2.1,key.2.2.2.2.2.1,by rw [e3]; exact key.2.2.2.2.2.2⟩
section
variable {nb : Nat} {k : Tk} {C : List Int} {now : Int}
theorem stp_c0 (hp : k.ph = 0) (h : k.so = 0) : stp nb k C now = (fin { k with steps:=k.steps + 1 } (low (C.getD nb 0)) (low (C.getD nb 0)),C.set nb (add64 (C.getD nb 0) 1),some ⟨k.who,3,nb,C.getD nb 0,add64 (C.getD nb 0) 1,true⟩):=by
 unfold stp
 rw [if_pos hp,if_pos h]
theorem zIG (hp : k.ph = 0) (h : k.so = 1) (hl : k.steps < k.t) : stp nb k C now = ({ k with steps:=k.steps + 1,seen:=max k.seen (low (C.getD (nb + k.steps.toNat) 0)) },C,some ⟨k.who,0,(nb + k.steps.toNat : Nat),C.getD (nb + k.steps.toNat) 0,C.getD (nb + k.steps.toNat) 0,true⟩):=by
 unfold stp
 rw [if_pos hp,if_neg (by omega),if_pos h,if_pos hl]
theorem zIW (hp : k.ph = 0) (h : k.so = 1) (hl : ¬ k.steps < k.t) (hs : k.seen + 1 < 16777215) : stp nb k C now = ({ k with steps:=k.steps + 1,ph:=1,lo:=k.seen + 1,hi:=k.seen + 1 },C.set (nb + k.who.toNat) (k.seen + 1),some ⟨k.who,1,(nb + k.who.toNat : Nat),C.getD (nb + k.who.toNat) 0,k.seen + 1,true⟩):=by
 unfold stp
 rw [if_pos hp,if_neg (by omega),if_pos h,if_neg hl,if_pos hs]
theorem zIE (hp : k.ph = 0) (h : k.so = 2) (hs : k.steps = 0) : stp nb k C now = ({ k with steps:=k.steps + 1,seen:=low (C.getD nb 0),ph:=if low (C.getD nb 0) = 16777215 then 2 else 0 },C,some ⟨k.who,0,nb,C.getD nb 0,C.getD nb 0,true⟩):=by
 unfold stp
 rw [if_pos hp,if_neg (by omega),if_neg (by omega),if_pos h,if_pos hs]
theorem zHE (hp : k.ph = 0) (h : k.so = 2) (hs : k.steps = 1) (hx : low (C.getD nb 0) = k.seen) : stp nb k C now = ({ k with steps:=k.steps + 1 },C,some ⟨k.who,0,nb,C.getD nb 0,C.getD nb 0,true⟩):=by
 unfold stp
 rw [if_pos hp,if_neg (by omega),if_neg (by omega),if_pos h,if_neg (by omega),if_pos hs,if_pos hx]
theorem zHo (hp : k.ph = 0) (h : k.so = 2) (hs : k.steps = 1) (hx : ¬ low (C.getD nb 0) = k.seen) : stp nb k C now = (fin { k with steps:=k.steps + 1 } k.seen (low (C.getD nb 0) - 1),C,some ⟨k.who,0,nb,C.getD nb 0,C.getD nb 0,true⟩):=by
 unfold stp
 rw [if_pos hp,if_neg (by omega),if_neg (by omega),if_pos h,if_neg (by omega),if_pos hs,if_neg hx]
theorem zHr (hp : k.ph = 0) (h : k.so = 2) (hs : k.steps = 2) (hx : C.getD nb 0 = k.seen) : stp nb k C now = (fin { k with steps:=k.steps + 1 } k.seen k.seen,C.set nb (k.seen + 1),some ⟨k.who,2,nb,C.getD nb 0,k.seen + 1,true⟩):=by
 unfold stp
 rw [if_pos hp,if_neg (by omega),if_neg (by omega),if_pos h,if_neg (by omega),if_neg (by omega),if_pos hs,if_pos hx]
theorem zHK (hp : k.ph = 0) (h : k.so = 2) (hs : k.steps = 2) (hx : ¬ C.getD nb 0 = k.seen) : stp nb k C now = ({ k with steps:=k.steps + 1 },C,some ⟨k.who,2,nb,C.getD nb 0,C.getD nb 0,false⟩):=by
 unfold stp
 rw [if_pos hp,if_neg (by omega),if_neg (by omega),if_pos h,if_neg (by omega),if_neg (by omega),if_pos hs,if_neg hx]
theorem zIZ (hp : k.ph = 0) (h : k.so = 2) (hs : 3 ≤ k.steps) : stp nb k C now = (fin { k with steps:=k.steps + 1 } k.seen (low (C.getD nb 0) - 1),C,some ⟨k.who,0,nb,C.getD nb 0,C.getD nb 0,true⟩):=by
 unfold stp
 rw [if_pos hp,if_neg (by omega),if_neg (by omega),if_pos h,if_neg (by omega),if_neg (by omega),if_neg (by omega)]
theorem stp_c3 (hp : k.ph = 0) (h : k.so = 3 ∨ k.so = 4 ∧ k.d < k.steps) : stp nb k C now = (fin { k with steps:=k.steps + 1,seen:=if k.steps = 0 then low now else k.seen } (if k.steps = 0 then low now else k.seen) (low now),C,none):=by
 unfold stp
 rw [if_pos hp,if_neg (by omega),if_neg (by omega),if_neg (by omega),if_pos (by omega)]
theorem stp_c4 (hp : k.ph = 0) (h : k.so = 4) (hd : k.steps ≤ k.d) : stp nb k C now = ({ k with steps:=k.steps + 1,seen:=if k.steps = 0 then low now else k.seen },C,none):=by
 unfold stp
 rw [if_pos hp,if_neg (by omega),if_neg (by omega),if_neg (by omega),if_neg (by omega)]
end
end
section
end
end
end Go.Proofs.YtjlpidjilonhfaaGreat
