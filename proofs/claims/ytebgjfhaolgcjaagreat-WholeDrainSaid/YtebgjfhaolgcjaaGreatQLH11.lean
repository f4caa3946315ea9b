/- Contracts and plain lemmas that these laws need. No condition. -/
import Derived.Lib.SlKeysI
import Derived.Maps.OwnOps
import Derived.Maps.OwnSet
import Derived.Maps.RangeWalk
import Derived.Test.YtebgjfhaolgcjaaGreatQLH1
import Derived.Test.YtebgjfhaolgcjaaGreatQLH5
import Derived.Test.YtebgjfhaolgcjaaGreatQLH6
import Derived.Test.YtebgjfhaolgcjaaGreatQLH8
import Derived.Test.YtebgjfhaolgcjaaGreatQLH9
import Derived.Test.YtebgjfhaolgcjaaGreatQLH10
namespace Go.Proofs.YtebgjfhaolgcjaaGreat
set_option linter.unusedVariables false
set_option maxHeartbeats 8000000
set_option maxRecDepth 100000
section
open Go.RowKit
def Gone (Y : Nat → Yd) (b p j : Nat) (x : Int) : Prop :=
 ∃ (s g : Nat) (dg : Dd),p < s ∧ s < b ∧ (Y s).C.getD j 0 = (Y (p + 1)).C.getD j 0 ∧ (Y (s + 1)).C.getD j 0 = tkW ((Y (p + 1)).C.getD j 0) ∧ (Y s).moves < (Y b).moves ∧ (Y b).ds[g]? = some dg ∧ dg.kd = 1 ∧ dg.fr < (Y s).moves ∧ (∃ w : Nat,dg.who = w ∧ (∃ k,(Y s).ts[w]? = some (some (.ge k,g))) ∧ (Y (s + 1)).ts[w]? ≠ (Y s).ts[w]?) ∧
  ((∃ (w : Nat) (k : Ge) (a : Ta),(Y b).ts[w]? = some (some (.ge k,g)) ∧ k.ta = some a ∧ a.next = 4 ∧ a.lost = false ∧ a.value = x) ∨ (dg.ok = true ∧ (Y s).moves < dg.till ∧ dg.v = x))
section
variable {B : YB} {N n m b w : Nat} {Y : Nat → Yd}
theorem zGj {Y : Yd} {k : Ge} {i : Nat} (ho : YOk (plOf B N) B.T n Y) (hw : Y.ts[w]? = some (some (.ge k,i))) {q : Nat} (hq : q < N) (hne : (k.cells N (2 * N + w) Y.C).getD q 0 ≠ Y.C.getD q 0) :
  ∃ a,k.ta = some a ∧ a.next = 3 ∧ a.lost = false ∧ a.slot = q ∧ a.word = Y.C.getD q 0 ∧ k.cells N (2 * N + w) Y.C = Y.C.set q (tkW a.word) ∧ ∀ z,k.step N (2 * N + w) Y.C z = { k with ta:=some { a with next:=4 } }:=by
 have hF:=ho.getF hw
 have hnp : ¬ k.ph ≠ 0:=by have:=hF.ph; omega
 cases hta : k.ta with
 | none =>
  exfalso
  apply hne
  unfold Ge.cells
  rw [if_neg hnp,hta]
 | some a =>
  obtain ⟨_,a2,b3,b4,b5⟩:=hF.ta a hta
  have hna : ¬ a.ph ≠ 0:=by omega
  have hc : k.cells N (2 * N + w) Y.C = a.cells a.slot.toNat (2 * N + w) Y.C:=by unfold Ge.cells; rw [if_neg hnp,hta]
  rw [hc] at hne ⊢
  by_cases n0 : a.next = 0
  ·exfalso
   apply hne
   unfold Ta.cells
   rw [if_neg hna,if_pos n0]
   exact zAH _ (by omega)
  by_cases n1 : a.next = 1
  ·exfalso
   apply hne
   unfold Ta.cells
   rw [if_neg hna,if_neg n0,if_pos n1]
  by_cases n2 : a.next = 2
  ·exfalso
   apply hne
   unfold Ta.cells
   rw [if_neg hna,if_neg n0,if_neg n1,if_pos n2]
  by_cases n3 : a.next = 3
  ·by_cases hx : Y.C.getD a.slot.toNat 0 = a.word
   ·have e1 : a.cells a.slot.toNat (2 * N + w) Y.C = Y.C.set a.slot.toNat (tkW a.word):=by
     unfold Ta.cells
     rw [if_neg hna,if_neg n0,if_neg n1,if_neg n2,if_pos n3,if_pos hx]
    rw [e1] at hne ⊢
    have hs : a.slot.toNat = q:=Classical.byContradiction fun hh=>hne (zAH _ hh)
    refine ⟨a,rfl,n3, ?_,by omega,by rw [← hs,hx],by rw [hs],fun z=>?_⟩
    ·rcases b5.st a2 with ⟨h,_⟩ | ⟨h,_⟩ | ⟨h,_⟩ | ⟨_,h⟩ | h
     ·omega
     ·omega
     ·omega
     ·exact h
     ·omega
    ·have e2 : k.step N (2 * N + w) Y.C z = k.grab N (a.go a.slot.toNat (N + a.slot.toNat) Y.C):=by unfold Ge.step; rw [if_neg hnp,hta]
     have e3 : a.go a.slot.toNat (N + a.slot.toNat) Y.C = { a with next:=4 }:=by unfold Ta.go; rw [if_neg hna,if_neg n0,if_neg n1,if_neg n2,if_pos n3,if_pos hx]
     rw [e2,e3]
     unfold Ge.grab
     rw [if_neg (by show ¬ a.ph = 1; omega),if_neg (by show ¬ a.ph = 2; omega)]
   ·exfalso
    apply hne
    unfold Ta.cells
    rw [if_neg hna,if_neg n0,if_neg n1,if_neg n2,if_pos n3,if_neg hx]
  ·exfalso
   apply hne
   unfold Ta.cells
   rw [if_neg hna,if_neg n0,if_neg n1,if_neg n2,if_neg n3]
   exact zAH _ (by omega)
theorem zII {k : Ge} {a : Ta} {C : List Int} {hz : Nat} {z : Int} (hp : k.ph = 0) (ha : k.ta = some a) (h0 : a.ph = 0) (hn : a.next = 4) (hl : a.lost = false) : (k.step N hz C z).ph = 1 ∧ (k.step N hz C z).val = a.value:=by
 have e2 : k.step N hz C z = k.grab N (a.go a.slot.toNat (N + a.slot.toNat) C):=by unfold Ge.step; rw [if_neg (by omega),ha]
 have e3 : a.go a.slot.toNat (N + a.slot.toNat) C = { a with next:=5,ph:=1 }:=by unfold Ta.go; rw [if_neg (by omega),if_neg (by omega),if_neg (by omega),if_neg (by omega),if_neg (by omega),if_neg (by rw [hl]; decide)]
 rw [e2,e3]
 unfold Ge.grab
 rw [if_pos rfl]
 exact ⟨rfl,rfl⟩
theorem Gone.next (h : YTr B N Y m) {p j : Nat} {x : Int} (hb : b < m) (hG : Gone Y b p j x) : Gone Y (b + 1) p j x:=by
 obtain ⟨s,g,dg,s1,s2,s3,s4,s5,s6,s7,s8,s9,s10⟩:=hG
 have hA:=h.all b (by omega)
 have hhow:=h.how b hb
 have hmv:=h.moves (show b ≤ b + 1 by omega) (by omega)
 rcases s10 with ⟨w,k,a,r1,r2,r3,r4,r5⟩ | ⟨r1,r2,r3⟩
 ·obtain ⟨_,_,_,kp,dg',k5,k6,k7,k8,_⟩:=hA.ok.task w _ g r1
  rw [s6] at k5
  cases k5
  have hF:=hA.ok.getF r1
  obtain ⟨_,a2,_⟩:=hF.ta a r2
  generalize hZ : Y (b + 1) = Z at hhow hmv
  cases hhow with
  | rest=>exact ⟨s,g,dg,s1,by omega,s3,s4,by rw [hZ]; omega,by rw [hZ]; exact s6,s7,s8,s9,.inl ⟨w,k,a,by rw [hZ]; exact r1,r2,r3,r4,r5⟩⟩
  | pass n hn=>exact ⟨s,g,dg,s1,by omega,s3,s4,by rw [hZ]; omega,by rw [hZ]; exact s6,s7,s8,s9,.inl ⟨w,k,a,by rw [hZ]; exact r1,r2,r3,r4,r5⟩⟩
  | call w0 take kd e x s' h1 h2 h3 =>
   refine ⟨s,g,dg,s1,by omega,s3,s4,by rw [hZ]; omega, ?_,s7,s8,s9,.inl ⟨w,k,a, ?_,r2,r3,r4,r5⟩⟩
   ·rw [hZ]
    show ((Y b).ds ++ [_])[g]? = some dg
    rw [List.getElem?_append_left (List.getElem?_eq_some_iff.1 s6).1]
    exact s6
   ·rw [hZ]
    show ((Y b).ts.set w0 _)[w]? = _
    rw [List.getElem?_set_ne (fun e=>by rw [e,r1] at h1; cases h1)]
    exact r1
  | step w0 T i z h1 h2 =>
   by_cases hw : w0 = w
   ·subst hw
    rw [r1] at h1
    cases h1
    obtain ⟨l1,l2⟩:=zII (N:=N) (C:=(Y b).C) (hz:=2 * N + w0) (z:=z) hF.ph r2 a2 r3 r4
    have hph : ¬ ((Wk.ge k).step (plOf B N w0) (Y b).C (Y b).now z).ph = 0:=by
     show ¬ (k.step N (2 * N + w0) (Y b).C z).ph = 0
     omega
    have e4 : dg.over (Y b).moves ((Wk.ge k).step (plOf B N w0) (Y b).C (Y b).now z) = { dg with till:=(Y b).moves,ok:=true,v:=(k.step N (2 * N + w0) (Y b).C z).val,lo:=0,hi:=0 }:=if_pos l1
    refine ⟨s,g, { dg with till:=(Y b).moves,ok:=true,v:=(k.step N (2 * N + w0) (Y b).C z).val,lo:=0,hi:=0 },s1,by omega,s3,s4,by rw [hZ]; omega, ?_,s7,s8,s9,.inr ⟨rfl, ?_, ?_⟩⟩
    ·rw [hZ]
     show (if ((Wk.ge k).step (plOf B N w0) (Y b).C (Y b).now z).ph = 0 then (Y b).ds else (Y b).ds.modify g (fun d=>d.over (Y b).moves ((Wk.ge k).step (plOf B N w0) (Y b).C (Y b).now z)))[g]? = _
     rw [if_neg hph,zBJ s6,e4]
    ·show ((Y s).moves : Int) < ((Y b).moves : Int)
     omega
    ·exact l2.trans r5
   ·refine ⟨s,g,dg,s1,by omega,s3,s4,by rw [hZ]; omega, ?_,s7,s8,s9,.inl ⟨w,k,a, ?_,r2,r3,r4,r5⟩⟩
    ·rw [hZ]
     show (if (T.step (plOf B N w0) (Y b).C (Y b).now z).ph = 0 then (Y b).ds else (Y b).ds.modify i (fun d=>d.over (Y b).moves (T.step (plOf B N w0) (Y b).C (Y b).now z)))[g]? = _
     split
     ·exact s6
     ·obtain ⟨_,_,_,_,d2,q5,q6,_⟩:=hA.ok.task w0 _ i h1
      rw [zBW (fun e=>?_)]
      ·exact s6
      ·rw [e,s6] at q5
       cases q5
       rw [k6] at q6
       omega
    ·rw [hZ]
     show (if (T.step (plOf B N w0) (Y b).C (Y b).now z).ph = 0 then (Y b).ts.set w0 (some (T.step (plOf B N w0) (Y b).C (Y b).now z,i)) else (Y b).ts.set w0 none)[w]? = _
     split
     ·rw [List.getElem?_set_ne hw]
      exact r1
     ·rw [List.getElem?_set_ne hw]
      exact r1
 ·exact ⟨s,g,dg,s1,by omega,s3,s4,by omega,hhow.over hA.ok s6 (.inl r1),s7,s8,s9,.inr ⟨r1,r2,r3⟩⟩
theorem PutAt.there (h : YTr B N Y m) {i p j : Nat} {d : Dd} (hP : PutAt Y B N i d p j) : ∀ {b : Nat},p < b → b ≤ m → (Y b).C.getD j 0 = (Y (p + 1)).C.getD j 0 ∨ Gone Y b p j d.x:=by
 intro b hpb hb
 induction b with
 | zero=>omega
 | succ b ih =>
  by_cases hq : p = b
  ·rw [hq]
   exact .inl rfl
  rcases ih (by omega) (by omega) with hs | hg
  ·by_cases hne : (Y (b + 1)).C.getD j 0 = (Y b).C.getD j 0
   ·exact .inl (hne.trans hs)
   right
   have hA:=h.all b (by omega)
   have hhow:=h.how b (by omega)
   have hlv : (Y b).C.getD j 0 % 4 = 1:=by rw [hs]; exact hP.live
   have hj:=hP.lt
   generalize hZ : Y (b + 1) = Z at hhow hne
   cases hhow with
   | rest=>exact absurd rfl hne
   | pass n hn=>exact absurd rfl hne
   | call w0 take kd e x s' h1 h2 h3=>exact absurd rfl hne
   | step w T g z hw ha =>
    obtain ⟨_,_,_,_,dg,k5,k6,k7,k8,_⟩:=hA.ok.task w T g hw
    have hkd:=hA.cok.kind w T g dg hw k5
    have hlt : w < (Y b).ts.length:=(List.getElem?_eq_some_iff.1 hw).1
    cases T with
    | pu k =>
     exfalso
     have hF:=hA.ok.putF h.cf h.hT hA.len hw
     have b1:=hF.lo
     have b2:=hF.hi
     have b3:=hF.n1
     have hT:=h.hT
     have hlen:=hA.len
     obtain ⟨m0,_⟩:=h.cf.own h.hT hF.wT
     have hn:=hF.ok.at' hF.ph
     rcases zEz (nb:=2 * N + B.T) (C:=(Y b).C) (now:=(Y b).now) hF.ph (by rcases hn with h | h | h | h <;> omega) (by omega) (by omega : k.cl.slot.toNat < N) (q:=j) (by omega) with hh | ⟨_,hh,_⟩ | ⟨n3,hh⟩
     ·exact hne hh
     ·omega
     ·rcases hn with ⟨a1,_⟩ | ⟨a1,_⟩ | ⟨a1,_⟩ | ⟨a1,a2,_⟩
      ·omega
      ·omega
      ·omega
      ·have hP:=(hA.aok.put w k g hw).word hF.ph (.inl a2)
       rw [← hh] at hP
       exact hP.1 hlv
    | ge k =>
     obtain ⟨a,t1,t2,t3,t4,t5,t6,t7⟩:=zGj hA.ok hw hj hne
     have hM:=(h.gets b (by omega)).run w k g dg hw k5
     obtain ⟨f,f1,f2,_,f4⟩:=hM.ex
     obtain ⟨c,j',c1,c2,c3,c4,c5,c6,c7⟩:=(f4 a t1).at'
     obtain rfl : j' = j:=by omega
     obtain ⟨u,u1,u2,u3⟩:=c7 t2 t3
     have hwu : (Y u).C.getD j' 0 = (Y (p + 1)).C.getD j' 0:=by
      rw [h.stays hj u1 (Nat.le_of_lt u2) (by omega) (by rw [← c6,t5]), ← c6,t5,hs]
     obtain ⟨i2,d2,q,q1,q2,q3,q4,q5,q6,q7⟩:=(h.puts u (by omega)).live j' hj (by rw [hwu]; exact hP.live)
     obtain ⟨rfl,_⟩:=zGy h hP q5 (by omega) (by omega) (by rw [← q6,hwu])
     have hx : a.value = d.x:=by rw [u3,q7, ← q5.value,hP.value]
     have hdd:=(hA.ok.deed g dg k5).2.2.1
     have e7:=t7 z
     have hph : ((Wk.ge k).step (plOf B N w) (Y b).C (Y b).now z).ph = 0:=by
      show (k.step N (2 * N + w) (Y b).C z).ph = 0
      rw [e7]
      exact hA.ok.getF hw |>.ph
     have ets : (Y (b + 1)).ts[w]? = some (some (Wk.ge { k with ta:=some { a with next:=4 } },g)):=by
      rw [hZ]
      show (if ((Wk.ge k).step (plOf B N w) (Y b).C (Y b).now z).ph = 0 then (Y b).ts.set w (some ((Wk.ge k).step (plOf B N w) (Y b).C (Y b).now z,g)) else (Y b).ts.set w none)[w]? = _
      rw [if_pos hph,List.getElem?_set_self hlt]
      show some (some (Wk.ge (k.step N (2 * N + w) (Y b).C z),g)) = _
      rw [e7]
     have eds : (Y (b + 1)).ds[g]? = some dg:=by
      rw [hZ]
      show (if ((Wk.ge k).step (plOf B N w) (Y b).C (Y b).now z).ph = 0 then (Y b).ds else (Y b).ds.modify g (fun d=>d.over (Y b).moves ((Wk.ge k).step (plOf B N w) (Y b).C (Y b).now z)))[g]? = _
      rw [if_pos hph]
      exact k5
     have hlen:=hA.len
     have hT:=h.hT
     refine ⟨b,g,dg,by omega,by omega,hs, ?_, ?_,eds,hkd,by omega,⟨w,k6,⟨k,hw⟩, ?_⟩,.inl ⟨w,_,_,ets,rfl,rfl,t3,hx⟩⟩
     ·rw [hZ]
      show (k.cells N (2 * N + w) (Y b).C).getD j' 0 = _
      rw [t6,zAM _ (by omega),t5,hs]
     ·rw [hZ]
      show (Y b).moves < (Y b).moves + 1
      omega
     ·rw [ets,hw]
      intro hh
      have hh':=Wk.ge.inj (Prod.mk.inj (Option.some.inj (Option.some.inj hh))).1
      have h5 : k.ta = some { a with next:=4 }:=by rw [← hh']
      rw [t1] at h5
      have h6 : a = { a with next:=4 }:=Option.some.inj h5
      have h7 : a.next = 4:=by rw [h6]
      omega
  ·exact .inr (hg.next h (by omega))
end
end
section
open Go.RowKit
structure Took (Y : Nat → Yd) (N m p j : Nat) (x : Int) (g c s : Nat) (dg : Dd) : Prop where
 pc : p < c
 cs : c ≤ s
 sm : s < m
 was : (Y s).C.getD j 0 = (Y (p + 1)).C.getD j 0
 new : (Y (s + 1)).C.getD j 0 = tkW ((Y (p + 1)).C.getD j 0)
 isEnd : IsEnd ((Y c).C.take N) dg.e j
 deed : (Y m).ds[g]? = some dg
 kd : dg.kd = 1
 fr : dg.fr < (Y c).moves
 out : dg.till = -1 ∨ (dg.ok = true ∧ (Y s).moves < dg.till ∧ dg.v = x)
 run : ∃ w : Nat,(∃ k,(Y s).ts[w]? = some (some (.ge k,g))) ∧ (Y (s + 1)).ts[w]? ≠ (Y s).ts[w]?
section
variable {B : YB} {N m : Nat} {Y : Nat → Yd}
theorem YTr.later (h : YTr B N Y m) {a : Nat} : ∀ {b : Nat},a ≤ b → b ≤ m → YLater (Y a) (Y b):=by
 intro b hab hb
 induction b with
 | zero =>
  obtain rfl : a = 0:=by omega
  exact YLater.refl _
 | succ b ih =>
  by_cases hq : a = b + 1
  ·rw [← hq]
   exact YLater.refl _
  ·exact (ih (by omega) (by omega)).trans ((h.mv b (by omega)).later (h.all b (by omega)).ok)
theorem Gone.took (h : YTr B N Y m) {i p j : Nat} {d : Dd} (hP : PutAt Y B N i d p j) (hG : Gone Y m p j d.x) : ∃ g c s dg,Took Y N m p j d.x g c s dg:=by
 obtain ⟨s,g,dg,s1,s2,s3,s4,s5,s6,s7,s8,⟨w,s9,⟨k,s10⟩,s11⟩,s12⟩:=hG
 have hA:=h.all s (by omega)
 have hj:=hP.lt
 have hlv:=hP.live
 have hf:=((h.fit (p + 1) (by omega)) j).1
 have htk:=(zAq hf).1
 have hne : (Y (s + 1)).C.getD j 0 ≠ (Y s).C.getD j 0:=fun e=>by
  rw [s4,s3] at e
  omega
 have hmv : ∃ z,Y (s + 1) = (Y s).step (plOf B N w) w (.ge k) g z:=by
  have hhow:=h.how s (by omega)
  generalize hZ : Y (s + 1) = Z at hhow hne s11
  cases hhow with
  | rest=>exact absurd rfl hne
  | pass n hn=>exact absurd rfl hne
  | call w0 take kd e x s' h1 h2 h3=>exact absurd rfl hne
  | step w0 T i0 z h1 h2 =>
   have : w0 = w:=Classical.byContradiction fun hw=>s11 (by
    show (if (T.step (plOf B N w0) (Y s).C (Y s).now z).ph = 0 then (Y s).ts.set w0 (some (T.step (plOf B N w0) (Y s).C (Y s).now z,i0)) else (Y s).ts.set w0 none)[w]? = _
    split <;> exact List.getElem?_set_ne hw)
   subst this
   rw [s10] at h1
   cases h1
   exact ⟨z,rfl⟩
 obtain ⟨z,hmv⟩:=hmv
 have hne' : (k.cells N (2 * N + w) (Y s).C).getD j 0 ≠ (Y s).C.getD j 0:=by
  intro e
  apply hne
  rw [hmv]
  exact e
 obtain ⟨a,t1,t2,t3,t4,t5,_,_⟩:=zGj hA.ok s10 hj hne'
 obtain ⟨_,_,_,_,d0,k5,_⟩:=hA.ok.task w _ g s10
 have hM:=(h.gets s (by omega)).run w k g d0 s10 k5
 obtain ⟨f,f1,f2,_,f4⟩:=hM.ex
 obtain ⟨c,j',c1,c2,c3,c4,c5,c6,c7⟩:=(f4 a t1).at'
 obtain rfl : j' = j:=by omega
 obtain ⟨dg',l1,l2,l3,l4,l5,l6,l7,_⟩:=(h.later (show s ≤ m by omega) (Nat.le_refl _)).deed g d0 k5
 rw [s6] at l1
 cases l1
 have hword : (Y c).C.getD j' 0 = (Y (p + 1)).C.getD j' 0:=by rw [← c6,t5,s3]
 have hpc : p < c:=Nat.lt_of_not_le fun hcp=>by
  have:=h.stays hj (a:=c) (b:=p) (c:=p + 1) hcp (by omega) (by omega) hword
  have hfree:=hP.free
  rw [this,hword] at hfree
  exact hfree hlv
 have hfc:=h.moves c1 (by omega)
 refine ⟨g,c,s,dg,hpc,by omega,s2,s3,s4,by rw [l4, ← hM.e]; exact c5,s6,s7,by omega, ?_,w,⟨k,s10⟩,s11⟩
 rcases s12 with ⟨w',k',a',r1,_⟩ | ⟨r1,r2,r3⟩
 ·obtain ⟨_,_,_,_,d2,q5,_,q7,_⟩:=(h.all m (Nat.le_refl _)).ok.task w' _ g r1
  rw [s6] at q5
  cases q5
  exact .inl q7
 ·exact .inr ⟨r1,r2,r3⟩
end
end
section
open Go.RowKit
def dDo (row : List Int) (d : Dd) : Option (List Int) :=
 if d.kd = 0 then if d.ok = true then some (if d.e = 0 then d.x :: row else row ++ [d.x]) else some row
 else if d.ok = true then
  if row = [] then none
  else if d.e = 0 then if row.getD 0 0 = d.v then some (row.drop 1) else none
  else if row.getD (row.length - 1) 0 = d.v then some (row.take (row.length - 1)) else none
 else if row = [] then some row else none
def dAns (row : List Int) (d : Dd) : Dd :=
 if 0 ≤ d.till then d else { d with ok:=true,v:=if d.kd = 1 ∧ row ≠ [] then (if d.e = 1 then row.getD (row.length - 1) 0 else row.getD 0 0) else 0,lo:=0,hi:=0 }
def oRun (l : List Dd) : List Int → List Nat → Option (List Int)
 | row,[]=>some row
 | row,i :: s=>match l[i]? with
  | some d=>(dDo row (dAns row d)).bind (fun r=>oRun l r s)
  | none=>none
structure Holds (l : List Dd) (D : Nat → Prop) (row : List Int) (s : List Nat) : Prop where
 nodup : s.Nodup
 new : ∀ i ∈ s,¬ D i
 all : ∀ (i : Nat) (d : Dd),l[i]? = some d → 0 ≤ d.till → D i ∨ i ∈ s
 ahead : ∀ (p i k : Nat) (d o : Dd),s[p]? = some i → l[i]? = some d → l[k]? = some o → dBef o d → D k ∨ ∃ q,q < p ∧ s[q]? = some k
 run : ∃ r,oRun l row s = some r
end
section
open Go.RowKit
structure It where
 i : Nat
 k : Int
 p : Nat
 x : Int
 tk : Option (Nat × Nat × Nat)
def It.ops (a : It) : List Nat:=match a.tk with
 | none=>[a.i]
 | some t=>[a.i,t.1]
section
variable {bef : Nat → Nat → Prop} {I J A B : List It} {l : List Dd} {a b x : It} {o : Nat}
theorem It.ops_iff : o ∈ a.ops ↔ o = a.i ∨ ∃ t,a.tk = some t ∧ o = t.1:=by
 unfold It.ops
 cases h : a.tk with
 | none=>simp
 | some t=>simp
end
end
section
open Go.RowKit
section
variable {r : Nat → Nat → Prop} {I J : List It} {l : List Dd} {a x : It} {o : Nat}
end
end
section
open Go.RowKit
structure Em where
 i : Nat
 c : Nat
structure Ems (bef : Nat → Nat → Prop) (I : List It) (E : List Em) : Prop where
 pe : ∀ a ∈ I,∀ e ∈ E,bef a.i e.i → a.p < e.c
 ge : ∀ a ∈ I,∀ t,a.tk = some t → ∀ e ∈ E,bef t.1 e.i → t.2.2 < e.c
 ep : ∀ e ∈ E,∀ a ∈ I,bef e.i a.i → e.c ≤ a.p
 eg : ∀ e ∈ E,∀ a ∈ I,∀ t,a.tk = some t → bef e.i t.1 → e.c < t.2.1
 ee : ∀ e ∈ E,∀ f ∈ E,bef e.i f.i → e.c < f.c
 none : ∀ e ∈ E,∀ a ∈ I,a.p < e.c → ∃ t,a.tk = some t ∧ t.2.2 < e.c
 new : ∀ e ∈ E,∀ a ∈ I,e.i ∉ a.ops
section
variable {bef : Nat → Nat → Prop} {I J : List It} {l : List Dd}
def befL (l : List Dd) (i k : Nat) : Prop := ∃ d o,l[i]? = some d ∧ l[k]? = some o ∧ dBef d o
end
end
section
open Go.RowKit
structure IsItem (Y : Nat → Yd) (B : YB) (N m : Nat) (a : It) (d : Dd) (j : Nat) : Prop where
 deed : (Y m).ds[a.i]? = some d
 kd : d.kd = 0
 ok : d.ok = true
 pm : a.p < m
 put : PutAt Y B N a.i d a.p j
 x : a.x = d.x
 k : a.k = pkey d.e d.lo d.hi j
 no : a.tk = none → (Y m).C.getD j 0 = (Y (a.p + 1)).C.getD j 0
 yes : ∀ t,a.tk = some t → ∃ dg,Took Y N m a.p j d.x t.1 t.2.1 t.2.2 dg
section
variable {B : YB} {N m : Nat} {Y : Nat → Yd}
theorem zGh (h : YTr B N Y m) {i : Nat} {d : Dd} (hd : (Y m).ds[i]? = some d) (hk : d.kd = 0) (ho : d.ok = true) : ∃ a j,a.i = i ∧ IsItem Y B N m a d j:=by
 obtain ⟨p,j,hp,hP⟩:=(h.puts m (Nat.le_refl _)).done i d hd hk ho
 by_cases hs : (Y m).C.getD j 0 = (Y (p + 1)).C.getD j 0
 ·exact ⟨⟨i,pkey d.e d.lo d.hi j,p,d.x,none⟩,j,rfl,hd,hk,ho,hp,hP,rfl,rfl,fun _=>hs,fun t ht=>by cases ht⟩
 ·obtain ⟨g,c,s,dg,ht⟩:=((hP.there h hp (Nat.le_refl _)).resolve_left hs).took h hP
  exact ⟨⟨i,pkey d.e d.lo d.hi j,p,d.x,some (g,c,s)⟩,j,rfl,hd,hk,ho,hp,hP,rfl,rfl,fun hh=>(by cases hh),fun t hh=>by cases hh; exact ⟨dg,ht⟩⟩
theorem IsItem.word (h : YTr B N Y m) {a : It} {d : Dd} {j : Nat} (ha : IsItem Y B N m a d j) {c : Nat} (h1 : a.p < c) (h2 : ∀ t,a.tk = some t → c ≤ t.2.2) (hc : c ≤ m) : (Y c).C.getD j 0 = (Y (a.p + 1)).C.getD j 0:=by
 cases htk : a.tk with
 | none=>exact h.stays ha.put.lt (c:=m) (by omega) hc (Nat.le_refl _) (ha.no htk).symm
 | some t =>
  obtain ⟨dg,ht⟩:=ha.yes t htk
  have:=ht.sm
  exact h.stays ha.put.lt (c:=t.2.2) (by omega) (h2 t htk) (by omega) ht.was.symm
theorem IsItem.wkey (h : YTr B N Y m) {a : It} {d : Dd} {j : Nat} (ha : IsItem Y B N m a d j) {c : Nat} (h1 : a.p < c) (h2 : ∀ t,a.tk = some t → c ≤ t.2.2) (hc : c ≤ m) : wkey ((Y c).C.take N) j = a.k ∧ live ((Y c).C.take N) j:=by
 have hw:=ha.word h h1 h2 hc
 have e1:=ha.put.word
 have s1:=ha.put.st
 have g1:=ha.put.gen
 have x0:=ha.put.e0
 have x1:=ha.put.e1
 have hl:=ha.put.live
 have e2 : ((Y c).C.take N).getD j 0 = (Y (a.p + 1)).C.getD j 0:=by rw [zCm ha.put.lt,hw]
 refine ⟨?_,by unfold live; rw [e2]; exact hl⟩
 show xkey _ _ = _
 rw [e2,ha.k]
 unfold xkey
 rw [show (Y (a.p + 1)).C.getD j 0 / 4 % 2 = d.e by omega,show (Y (a.p + 1)).C.getD j 0 / 65536 % 16777216 = d.lo by omega,show (Y (a.p + 1)).C.getD j 0 / 1099511627776 = d.hi by omega]
theorem zHd (h : YTr B N Y m) {a b : It} {d d' : Dd} {j j' : Nat} (ha : IsItem Y B N m a d j) (hb : IsItem Y B N m b d' j') {g c s : Nat} {x : Int} {dg : Dd} (ht : Took Y N m a.p j x g c s dg) (hk : a.tk = some (g,c,s)) (h1 : b.p < c) (h2 : ∀ t,b.tk = some t → c ≤ t.2.2) :
  if dg.e = 0 then a.k ≤ b.k else b.k ≤ a.k:=by
 have k1:=ht.cs
 have k2:=ht.sm
 obtain ⟨wa,_⟩:=ha.wkey h ht.pc (fun t htt=>by rw [hk] at htt; cases htt; exact k1) (by omega)
 obtain ⟨wb,lb⟩:=hb.wkey h h1 h2 (by omega)
 rcases ht.isEnd with ⟨e,_⟩ | ⟨i,e1,e2,e3,e4⟩
 ·omega
 ·obtain rfl : i = j:=by omega
  have hl : ((Y c).C.take N).length = N:=by
   rw [List.length_take]
   have:=(h.all c (by omega)).len
   have:=h.hT
   omega
  have:=e4 j' (by rw [hl]; exact hb.put.lt) lb
  rw [wa,wb] at this
  exact this
theorem dfr (h : YTr B N Y m) {i : Nat} {d : Dd} (hd : (Y m).ds[i]? = some d) : 0 ≤ d.till → d.fr < d.till:=fun ht=>((h.all m (Nat.le_refl _)).ok.deed i d hd).2.2.2 (by omega) |>.1
theorem mv_lt (h : YTr B N Y m) {a b : Nat} (ha : a ≤ m) (hl : ((Y a).moves : Int) < (Y b).moves) : a < b:=Nat.lt_of_not_le fun hba=>by
 have:=h.moves hba ha
 omega
end
end
section
open Go.RowKit
section
variable {B : YB} {N m : Nat} {Y : Nat → Yd}
theorem zD3 (h : YTr B N Y m) : ∃ I : List It,(∀ a ∈ I, ∃ d j,IsItem Y B N m a d j) ∧ (∀ (i : Nat) (d : Dd),(Y m).ds[i]? = some d → d.kd = 0 → d.ok = true → ∃ a ∈ I,a.i = i) ∧ ∀ a ∈ I,∀ b ∈ I,a.i = b.i → a = b:=by
 have hex : ∀ i : Nat, ∃ a : It,(∃ d,(Y m).ds[i]? = some d ∧ d.kd = 0 ∧ d.ok = true) → a.i = i ∧ ∃ d j,IsItem Y B N m a d j:=fun i=>by
  by_cases hq : ∃ d,(Y m).ds[i]? = some d ∧ d.kd = 0 ∧ d.ok = true
  ·obtain ⟨d,h1,h2,h3⟩:=hq
   obtain ⟨a,j,e,ha⟩:=zGh h h1 h2 h3
   exact ⟨a,fun _=>⟨e,d,j,ha⟩⟩
  ·exact ⟨⟨0,0,0,0,none⟩,fun hh=>absurd hh hq⟩
 obtain ⟨f,hf⟩:=Classical.axiomOfChoice hex
 have hS : ∀ i,i ∈ (List.range (Y m).ds.length).filter (fun i=>((Y m).ds[i]?).any (fun d=>decide (d.kd = 0) && d.ok)) ↔ ∃ d,(Y m).ds[i]? = some d ∧ d.kd = 0 ∧ d.ok = true:=fun i=>by
  rw [List.mem_filter,List.mem_range]
  constructor
  ·rintro ⟨h1,h2⟩
   rw [List.getElem?_eq_getElem h1] at h2 ⊢
   simp at h2
   exact ⟨_,rfl,h2.1,h2.2⟩
  ·rintro ⟨d,h1,h2,h3⟩
   refine ⟨(List.getElem?_eq_some_iff.1 h1).1, ?_⟩
   rw [h1]
   simp [h2,h3]
 refine ⟨_,fun a ha=>?_,fun i d h1 h2 h3=>⟨f i,List.mem_map.2 ⟨i,(hS i).2 ⟨d,h1,h2,h3⟩,rfl⟩,(hf i ⟨d,h1,h2,h3⟩).1⟩,fun a ha b hb hab=>?_⟩
 ·obtain ⟨i,hi,rfl⟩:=List.mem_map.1 ha
  exact (hf i ((hS i).1 hi)).2
 ·obtain ⟨i,hi,rfl⟩:=List.mem_map.1 ha
  obtain ⟨i',hi',rfl⟩:=List.mem_map.1 hb
  have e1:=(hf i ((hS i).1 hi)).1
  have e2:=(hf i' ((hS i').1 hi')).1
  have : i = i':=by omega
  rw [this]
structure IsEm (Y : Nat → Yd) (N m : Nat) (e : Em) (d : Dd) : Prop where
 deed : (Y m).ds[e.i]? = some d
 kd : d.kd = 1
 ok : d.ok = false
 till : 0 ≤ d.till
 fr : d.fr < (Y e.c).moves
 le : ((Y e.c).moves : Int) ≤ d.till
 cm : e.c ≤ m
 none : ∀ j,j < N → ¬ (Y e.c).C.getD j 0 % 4 = 1
theorem em_of (h : YTr B N Y m) {i : Nat} {d : Dd} (hd : (Y m).ds[i]? = some d) (hk : d.kd = 1) (ho : d.ok = false) (ht : 0 ≤ d.till) : ∃ e : Em,e.i = i ∧ IsEm Y N m e d:=by
 obtain ⟨f,c,b',h1,h2,h3,h4,h5,h6⟩:=((h.gets m (Nat.le_refl _)).done i d hd hk (by omega)).no ho
 have m1:=h.moves h2 (by omega)
 have m2:=h.moves h3 h4
 refine ⟨⟨i,c⟩,rfl,hd,hk,ho,ht,by show d.fr < (Y c).moves; omega,by show ((Y c).moves : Int) ≤ _; omega,by show c ≤ m; omega,fun j hj hl=>?_⟩
 rcases h6 with ⟨_,hn⟩ | ⟨i',e1,_⟩
 ·refine hn j ?_ ?_
  ·rw [List.length_take]
   have:=(h.all c (by omega)).len
   have:=h.hT
   omega
  ·unfold live
   rw [zCm hj]
   exact hl
 ·omega
theorem ems_of (h : YTr B N Y m) {I : List It} {E : List Em} (hI : ∀ a ∈ I, ∃ d j,IsItem Y B N m a d j) (hE : ∀ e ∈ E, ∃ d,IsEm Y N m e d) : Ems (befL (Y m).ds) I E:=by
 have tl : ∀ a d j,IsItem Y B N m a d j → ((Y a.p).moves : Int) = d.till ∧ d.fr < (Y a.p).moves:=fun a d j pa=>by
  have e:=pa.put.till
  have:=dfr h pa.deed (by omega)
  omega
 refine ⟨fun a ha e he hbf=>?_,fun a ha t ht e he hbf=>?_,fun e he a ha hbf=>?_,fun e he a ha t ht hbf=>?_,fun e he f hf hbf=>?_,fun e he a ha hlt=>?_,fun e he a ha hm=>?_⟩
 ·obtain ⟨d,j,pa⟩:=hI a ha
  obtain ⟨de,pe⟩:=hE e he
  obtain ⟨x,y,x1,x2,x3,x4⟩:=hbf
  rw [pa.deed] at x1
  rw [pe.deed] at x2
  cases x1
  cases x2
  have:=tl a d j pa
  have:=pe.fr
  exact mv_lt h (by have:=pa.pm; omega) (by omega)
 ·obtain ⟨d,j,pa⟩:=hI a ha
  obtain ⟨de,pe⟩:=hE e he
  obtain ⟨dg,tk⟩:=pa.yes t ht
  obtain ⟨x,y,x1,x2,x3,x4⟩:=hbf
  rw [tk.deed] at x1
  rw [pe.deed] at x2
  cases x1
  cases x2
  have:=pe.fr
  have:=tk.sm
  rcases tk.out with q | ⟨_,q,_⟩
  ·omega
  ·exact mv_lt h (by omega) (by omega)
 ·obtain ⟨d,j,pa⟩:=hI a ha
  obtain ⟨de,pe⟩:=hE e he
  obtain ⟨x,y,x1,x2,x3,x4⟩:=hbf
  rw [pe.deed] at x1
  rw [pa.deed] at x2
  cases x1
  cases x2
  have:=tl a d j pa
  have:=pe.le
  exact Nat.le_of_lt (mv_lt h pe.cm (by omega))
 ·obtain ⟨d,j,pa⟩:=hI a ha
  obtain ⟨de,pe⟩:=hE e he
  obtain ⟨dg,tk⟩:=pa.yes t ht
  obtain ⟨x,y,x1,x2,x3,x4⟩:=hbf
  rw [pe.deed] at x1
  rw [tk.deed] at x2
  cases x1
  cases x2
  have:=pe.le
  have:=tk.fr
  exact mv_lt h pe.cm (by omega)
 ·obtain ⟨de,pe⟩:=hE e he
  obtain ⟨df,pf⟩:=hE f hf
  obtain ⟨x,y,x1,x2,x3,x4⟩:=hbf
  rw [pe.deed] at x1
  rw [pf.deed] at x2
  cases x1
  cases x2
  have:=pe.le
  have:=pf.fr
  exact mv_lt h pe.cm (by omega)
 ·obtain ⟨d,j,pa⟩:=hI a ha
  obtain ⟨de,pe⟩:=hE e he
  apply Classical.byContradiction
  intro hno
  have hw:=pa.word h hlt (fun t ht=>Nat.le_of_not_lt fun hh=>hno ⟨t,ht,hh⟩) pe.cm
  exact pe.none j pa.put.lt (by rw [hw]; exact pa.put.live)
 ·obtain ⟨d,j,pa⟩:=hI a ha
  obtain ⟨de,pe⟩:=hE e he
  rcases It.ops_iff.1 hm with e1 | ⟨t,ht,e1⟩
  ·have q:=pe.deed
   rw [e1,pa.deed] at q
   cases q
   have:=pa.kd
   have:=pe.kd
   omega
  ·obtain ⟨dg,tk⟩:=pa.yes t ht
   have q:=tk.deed
   rw [← e1,pe.deed] at q
   cases q
   have:=pe.till
   rcases tk.out with q | ⟨q,_⟩
   ·omega
   ·rw [pe.ok] at q
    cases q
theorem zCC (h : YTr B N Y m) {I : List It} (hI : ∀ a ∈ I, ∃ d j,IsItem Y B N m a d j) (hin : ∀ (i : Nat) (d : Dd),(Y m).ds[i]? = some d → d.kd = 0 → d.ok = true → ∃ a ∈ I,a.i = i) {g : Nat} {dg : Dd} (hd : (Y m).ds[g]? = some dg) (hk : dg.kd = 1) (ho : dg.ok = true) (ht : 0 ≤ dg.till) : ∃ a ∈ I, ∃ t,a.tk = some t ∧ t.1 = g:=by
 obtain ⟨w,f,b',_,_,hb',_,hgot⟩:=((h.gets m (Nat.le_refl _)).done g dg hd hk (by omega)).ok ho
 obtain ⟨c,s,j,i,p,d,hh⟩:=zIC h hb' hgot
 have k1:=hh.sb
 have k2:=hh.cs
 have k3:=hh.pc
 have hdm:=h.over (show c ≤ m by omega) (Nat.le_refl _) hh.deed (.inl hh.ok)
 obtain ⟨a,ha,rfl⟩:=hin i d hdm hh.kd hh.ok
 obtain ⟨d',j',pa⟩:=hI a ha
 have q:=pa.deed
 rw [hdm] at q
 cases q
 have hpp : a.p = p:=by
  have e1:=pa.put.till
  have e2:=hh.put.till
  obtain ⟨w1,k1',r1,r2,r3⟩:=pa.put.run
  obtain ⟨w2,k2',r1',r2',r3'⟩:=hh.put.run
  have hpm:=pa.pm
  rcases Nat.lt_trichotomy a.p p with hl | he | hl
  ·obtain ⟨_,_,_,_,d2,x5,_,x7,_⟩:=(h.all p (by omega)).ok.task w2 _ a.i r2'
   have hlat:=(h.later (show a.p + 1 ≤ p by omega) (by omega))
   have hdone : (Y (a.p + 1)).ds[a.i]? = some d ∨ ∃ x,(Y (a.p + 1)).ds[a.i]? = some x ∧ x.till = -1:=by
    cases hx : (Y (a.p + 1)).ds[a.i]? with
    | none =>
     obtain ⟨_,_,_,_,d3,y5,_⟩:=(h.all a.p (by omega)).ok.task w1 _ a.i r2
     obtain ⟨d4,z1,_⟩:=(h.later (show a.p ≤ a.p + 1 by omega) (by omega)).deed a.i d3 y5
     rw [hx] at z1
     cases z1
    | some x =>
     by_cases hxt : x.till = -1
     ·exact .inr ⟨x,rfl,hxt⟩
     ·have:=h.over (show a.p + 1 ≤ m by omega) (Nat.le_refl _) hx (.inr hxt)
      rw [hdm] at this
      cases this
      exact .inl rfl
   rcases hdone with hx | ⟨x,hx,hxt⟩
   ·have:=h.over (show a.p + 1 ≤ p by omega) (by omega) hx (.inl hh.ok)
    rw [this] at x5
    cases x5
    omega
   ·obtain ⟨⟨w3,g1,g2,g3⟩,_⟩:=(h.all (a.p + 1) (by omega)).ok.deed a.i x hx
    obtain ⟨T,hT⟩:=g3 hxt
    obtain ⟨_,_,_,_,d3,y5,y6,_⟩:=(h.all a.p (by omega)).ok.task w1 _ a.i r2
    obtain ⟨d4,z1,z2,_⟩:=(h.later (show a.p ≤ a.p + 1 by omega) (by omega)).deed a.i d3 y5
    rw [hx] at z1
    cases z1
    have : w3 = w1:=by omega
    rw [this,r3] at hT
    cases hT
  ·exact he
  ·obtain ⟨_,_,_,_,d2,x5,_,x7,_⟩:=(h.all a.p (by omega)).ok.task w1 _ a.i r2
   have:=h.over (show c ≤ m by omega) (Nat.le_refl _) hh.deed (.inl hh.ok)
   by_cases hca : c ≤ a.p
   ·have:=h.over hca (by omega) hh.deed (.inl hh.ok)
    rw [this] at x5
    cases x5
    omega
   ·obtain ⟨_,_,_,_,d3,y5,y6,_⟩:=(h.all p (by omega)).ok.task w2 _ a.i r2'
    cases hx : (Y (p + 1)).ds[a.i]? with
    | none =>
     obtain ⟨d4,z1,_⟩:=(h.later (show p ≤ p + 1 by omega) (by omega)).deed a.i d3 y5
     rw [hx] at z1
     cases z1
    | some x =>
     by_cases hxt : x.till = -1
     ·obtain ⟨⟨w3,g1,g2,g3⟩,_⟩:=(h.all (p + 1) (by omega)).ok.deed a.i x hx
      obtain ⟨T,hT⟩:=g3 hxt
      obtain ⟨d4,z1,z2,_⟩:=(h.later (show p ≤ p + 1 by omega) (by omega)).deed a.i d3 y5
      rw [hx] at z1
      cases z1
      have : w3 = w2:=by omega
      rw [this,r3'] at hT
      cases hT
     ·have h4:=h.over (show p + 1 ≤ a.p by omega) (by omega) hx (.inr hxt)
      rw [h4] at x5
      cases x5
      exact absurd x7 hxt
 subst hpp
 have hjj : j' = j:=by
  apply Classical.byContradiction
  intro hne
  have e1:=pa.put.rest j (fun e=>hne e.symm)
  have l1:=hh.put.live
  have f1:=hh.put.free
  rw [e1] at l1
  exact f1 l1
 subst hjj
 have l1:=hh.put.live
 have ff:=((h.fit (a.p + 1) (by omega)) j').1
 have tw:=(zAq ff).1
 have hnew : (Y (s + 1)).C.getD j' 0 = tkW ((Y (a.p + 1)).C.getD j' 0):=by rw [hh.new,hh.word]
 have hwas : (Y s).C.getD j' 0 = (Y (a.p + 1)).C.getD j' 0:=by rw [hh.was,hh.word]
 refine ⟨a,ha, ?_⟩
 cases htk : a.tk with
 | none =>
  have:=h.stays hh.lt (a:=a.p + 1) (b:=s + 1) (c:=m) (by omega) (by omega) (Nat.le_refl _) (pa.no htk).symm
  rw [hnew] at this
  omega
 | some t =>
  refine ⟨t,rfl, ?_⟩
  obtain ⟨dg',tk⟩:=pa.yes t htk
  have q1:=tk.sm
  have q2:=tk.pc
  have q3:=tk.cs
  have hss : t.2.2 = s:=by
   rcases Nat.lt_trichotomy t.2.2 s with hl | he | hl
   ·have:=h.stays hh.lt (a:=t.2.2) (b:=t.2.2 + 1) (c:=s) (by omega) (by omega) (by omega) (by rw [tk.was,hwas])
    rw [tk.new,tk.was] at this
    omega
   ·exact he
   ·have:=h.stays hh.lt (a:=s) (b:=s + 1) (c:=t.2.2) (by omega) (by omega) (by omega) (by rw [tk.was,hwas])
    rw [hnew,hwas] at this
    omega
  obtain ⟨w1,⟨k1',r1⟩,r2⟩:=tk.run
  obtain ⟨k2',r1'⟩:=hh.run
  rw [hss] at r1 r2
  have hw:=zFN (h.how s (by omega)) r2 hh.turn
  subst hw
  rw [r1] at r1'
  exact (Prod.mk.inj (Option.some.inj (Option.some.inj r1'))).2
end
end
section
open Go.RowKit
section
variable {B : YB} {N m : Nat} {Y : Nat → Yd}
end
end
section
open Go.RowKit
section
variable {B : YB} {N m : Nat} {Y : Nat → Yd}
theorem zBn (h : YTr B N Y m) {g : Nat} {dg : Dd} (hd : (Y m).ds[g]? = some dg) (hk : dg.kd = 1) (ho : dg.ok = true) (ht : 0 ≤ dg.till) :
  ∃ (i : Nat) (d : Dd),(Y m).ds[i]? = some d ∧ d.kd = 0 ∧ d.ok = true ∧ dg.v = d.x ∧ d.till < dg.till ∧
   ((∀ (i i' : Nat) (d d' : Dd),(Y m).ds[i]? = some d → (Y m).ds[i']? = some d' → d.kd = 0 → d'.kd = 0 → d.x = d'.x → i = i') → ∀ (g' : Nat) (dg' : Dd),(Y m).ds[g']? = some dg' → dg'.kd = 1 → dg'.ok = true → 0 ≤ dg'.till → dg'.v = dg.v → g' = g):=by
 obtain ⟨I,hI,hin,hu⟩:=zD3 h
 obtain ⟨a,ha,t,htk,rfl⟩:=zCC h hI hin hd hk ho ht
 obtain ⟨d,j,pa⟩:=hI a ha
 obtain ⟨dg',tk⟩:=pa.yes t htk
 have q:=tk.deed
 rw [hd] at q
 cases q
 have k1:=tk.pc
 have k2:=tk.cs
 have k3:=tk.sm
 have e:=pa.put.till
 have hmv:=h.moves (show a.p ≤ t.2.2 by omega) (by omega)
 rcases tk.out with q | ⟨_,q,hv⟩
 ·omega
 refine ⟨a.i,d,pa.deed,pa.kd,pa.ok,hv,by omega,fun hx g' dg2 hd2 hk2 ho2 ht2 hv2=>?_⟩
 obtain ⟨b,hb,u,huk,rfl⟩:=zCC h hI hin hd2 hk2 ho2 ht2
 obtain ⟨d2,j2,pb⟩:=hI b hb
 obtain ⟨dg3,tk2⟩:=pb.yes u huk
 have q2:=tk2.deed
 rw [hd2] at q2
 cases q2
 rcases tk2.out with q3 | ⟨_,_,hv3⟩
 ·omega
 have:=hx b.i a.i d2 d pb.deed pa.deed pb.kd pa.kd (by rw [← hv3,hv2,hv])
 have:=hu b hb a ha this
 subst this
 rw [htk] at huk
 cases huk
 rfl
theorem zCY (h : YTr B N Y m) (hrest : ∀ (g : Nat) (dg : Dd),(Y m).ds[g]? = some dg → dg.kd = 1 → 0 ≤ dg.till) {e i : Nat} {de d : Dd} (hde : (Y m).ds[e]? = some de) (hk : de.kd = 1) (ho : de.ok = false) (hd : (Y m).ds[i]? = some d) (hk' : d.kd = 0) (ho' : d.ok = true) (hb : dBef d de) :
  ∃ (k : Nat) (dk : Dd),(Y m).ds[k]? = some dk ∧ dk.kd = 1 ∧ dk.ok = true ∧ dk.v = d.x ∧ ¬ dBef de dk:=by
 obtain ⟨a,j,rfl,pa⟩:=zGh h hd hk' ho'
 obtain ⟨em,rfl,pe⟩:=em_of h hde hk ho (hrest e de hde hk)
 have q:=pa.deed
 have hE:=ems_of h (I:=[a]) (E:=[em]) (fun b hb=>by rw [List.mem_singleton.1 hb]; exact ⟨_,_,pa⟩) (fun f hf=>by rw [List.mem_singleton.1 hf]; exact ⟨_,pe⟩)
 have ha:=List.mem_singleton.2 (rfl : a = a)
 have hem:=List.mem_singleton.2 (rfl : em = em)
 have hlt:=hE.pe a ha em hem ⟨d,de,hd,hde,hb⟩
 obtain ⟨t,htk,hs⟩:=hE.none em hem a ha hlt
 obtain ⟨dg,tk⟩:=pa.yes t htk
 have h0:=hrest t.1 dg tk.deed tk.kd
 rcases tk.out with q | ⟨q1,q2,q3⟩
 ·omega
 ·refine ⟨t.1,dg,tk.deed,tk.kd,q1,q3,fun hbf=>?_⟩
  have r1:=pe.le
  have r2:=tk.fr
  have r3:=tk.cs
  have hmv:=h.moves (show t.2.1 ≤ em.c by omega) pe.cm
  have:=hbf.2
  omega
def dNear (e : Int) (d' d : Dd) : Prop:=if d'.e = e then d.e ≠ e ∨ dBef d d' else d.e ≠ e ∧ dBef d' d
theorem zFl (h : YTr B N Y m) (hN : N < 1048576) {a b : It} {d d' : Dd} {j j' : Nat} (ha : IsItem Y B N m a d j) (hb : IsItem Y B N m b d' j') {t : Nat × Nat × Nat} {dg : Dd} (hk : a.tk = some t) (tk : Took Y N m a.p j d.x t.1 t.2.1 t.2.2 dg) (he : dg.e = 0 ∨ dg.e = 1) (hbf : dBef d' dg) (hl : ∀ u,b.tk = some u → t.2.1 ≤ u.2.2) :
  ¬ dNear dg.e d' d:=by
 intro hn
 have hS:=(h.all m (Nat.le_refl _)).sok
 have e1:=hb.put.till
 have f1:=tk.fr
 have hlt : b.p < t.2.1:=mv_lt h (by have:=hb.pm; omega) (by have:=hbf.2; omega)
 have htop:=zHd h ha hb tk hk hlt hl
 have sa:=ha.put.st
 have sb:=hb.put.st
 have ja:=ha.put.lt
 have jb:=hb.put.lt
 have x0:=ha.put.e0
 have x1:=ha.put.e1
 have y0:=hb.put.e0
 have y1:=hb.put.e1
 have o1 : dBef d d' → d.hi < d'.lo:=fun hh=>hS.order a.i b.i d d' ha.deed hb.deed ha.kd ha.ok hb.kd hb.ok hh.2
 have o2 : dBef d' d → d'.hi < d.lo:=fun hh=>hS.order b.i a.i d' d hb.deed ha.deed hb.kd hb.ok ha.kd ha.ok hh.2
 rw [ha.k,hb.k] at htop
 unfold pkey lkey at htop
 unfold dNear at hn
 rcases he with he | he
 ·rw [if_pos he] at htop
  rw [he] at hn
  by_cases h1 : d'.e = 0
  ·rw [if_pos h1] at hn htop
   rcases hn with hn | hn
   ·rw [if_neg hn] at htop
    omega
   ·have:=o1 hn
    by_cases h2 : d.e = 0
    ·rw [if_pos h2] at htop
     omega
    ·rw [if_neg h2] at htop
     omega
  ·rw [if_neg h1] at hn htop
   have:=o2 hn.2
   rw [if_neg hn.1] at htop
   omega
 ·rw [if_neg (by omega)] at htop
  rw [he] at hn
  by_cases h1 : d'.e = 1
  ·rw [if_pos h1] at hn
   rw [if_neg (by omega : ¬ d'.e = 0)] at htop
   rcases hn with hn | hn
   ·rw [if_pos (by omega : d.e = 0)] at htop
    omega
   ·have:=o1 hn
    by_cases h2 : d.e = 0
    ·rw [if_pos h2] at htop
     omega
    ·rw [if_neg h2] at htop
     omega
  ·rw [if_neg h1] at hn
   rw [if_pos (by omega : d'.e = 0)] at htop
   have:=o2 hn.2
   rw [if_pos (by omega : d.e = 0)] at htop
   omega
end
end
section
open Go.RowKit
def hadBy (v : Int) (d : Dd) : Prop:=d.kd = 1 ∧ d.ok = true ∧ d.v = v
instance (v : Int) (d : Dd) : Decidable (hadBy v d):=inferInstanceAs (Decidable (_ ∧ _))
theorem YTr.callN {B : YB} {N m : Nat} {Yg : Nat → Yd} {Y : Yd} (h : YTr B N Yg m) (hY : Yg m = Y) {k : Nat} (take : Bool) {kd e x s : Int} (hk : kdI take = kd) (he : e = 0 ∨ e = 1) (x0 : 0 ≤ x) (x1 : x ≤ 18446744073709551615) (hq : Y.ts[k]? = some none) (hm : m + 1 < 1000000) :
  YTr B N (fun i=>if i ≤ m then Yg i else Y.call k kd e x s (wkB B N k take e x s)) (m + 1):=by
 have hA:=h.all m (Nat.le_refl _)
 have hf:=h.fit m (Nat.le_refl _)
 rw [hY] at hA hf
 have hw : YHow B N Y (Y.call k kd e x s (wkB B N k take e x s)):=.call k take kd e x s hq he hk
 refine h.snoc (by rw [hY]; exact hw) (by
  rw [hY]
  exact hw.mv_of (fun w take' kd' e' x' s' he=>by
   have e1:=congrArg Yd.ds he
   have e2 : (Y.ds ++ [(⟨(k : Int),kd,e,x,s,Y.moves, -1,false,0,0,0⟩ : Dd)]) = Y.ds ++ [⟨(w : Int),kd',e',x',s',Y.moves, -1,false,0,0,0⟩]:=e1
   have e3:=List.append_cancel_left e2
   simp only [List.cons.injEq,Dd.mk.injEq,and_true] at e3
   rw [← e3.2.2.2.1]
   exact ⟨x0,x1⟩) h.cf h.hT hA.len hA.ok) hf hm
structure TkIs (l : List Dd) (v : Int) (r : Int) : Prop where
 is : (r = -1 ∧ ∀ d ∈ l,¬ hadBy v d) ∨ ∃ (i : Nat) (d : Dd),r = i ∧ l[i]? = some d ∧ hadBy v d
def DOwn (l : List Dd) : Prop:=∀ (i i' : Nat) (d d' : Dd),l[i]? = some d → l[i']? = some d' → d.kd = 0 → d'.kd = 0 → d.x = d'.x → i = i'
section
variable {B : YB} {N m : Nat} {Y : Nat → Yd}
theorem zBX (h : YTr B N Y m) {i : Nat} {d : Dd} (hd : (Y m).ds[i]? = some d) (ho : d.ok = true) : 0 ≤ d.till:=by
 have hA:=(h.all m (Nat.le_refl _)).ok
 obtain ⟨⟨w,_,_,g3⟩,_,_,g6⟩:=hA.deed i d hd
 by_cases e : d.till = -1
 ·obtain ⟨T,hT⟩:=g3 e
  obtain ⟨_,_,_,_,d',k5,_,_,k8,_⟩:=hA.task w T i hT
  rw [hd] at k5
  cases k5
  rw [k8] at ho
  cases ho
 ·have h1:=(g6 e).1
  have h2:=(hA.deed i d hd).2.1
  omega
theorem zIA (h : YTr B N Y m) (hx : DOwn (Y m).ds) {g g' : Nat} {dg dg' : Dd} (hd : (Y m).ds[g]? = some dg) (hd' : (Y m).ds[g']? = some dg') {v : Int} (hb : hadBy v dg) (hb' : hadBy v dg') : g' = g:=by
 obtain ⟨i,d,_,_,_,_,_,q⟩:=zBn h hd hb.1 hb.2.1 (zBX h hd hb.2.1)
 exact q hx g' dg' hd' hb'.1 hb'.2.1 (zBX h hd' hb'.2.1) (by rw [hb.2.2,hb'.2.2])
theorem zHQ (h : YTr B N Y m) (hN : N < 1048576) (hx : DOwn (Y m).ds) {g io ip : Nat} {dg do' dp : Dd} (hg : (Y m).ds[g]? = some dg) (gk : dg.kd = 1) (go : dg.ok = true) (ge : dg.e = 0 ∨ dg.e = 1) (ho : (Y m).ds[io]? = some do') (ok : do'.kd = 0) (ov : do'.x = dg.v) (hp : (Y m).ds[ip]? = some dp) (pk : dp.kd = 0) (po : dp.ok = true) (hb : dBef dp dg) {r : Int} (hr : TkIs (Y m).ds dp.x r)
  (hk : (r < 0 ∧ ∀ (k : Nat) (dk : Dd),(Y m).ds[k]? = some dk → dk.kd = 1 → 0 ≤ dk.till) ∨ ∃ (k : Nat) (dk : Dd),r = k ∧ (Y m).ds[k]? = some dk ∧ dBef dg dk) : ¬ dNear dg.e dp do':=by
 obtain ⟨I,hI,hin,hu⟩:=zD3 h
 obtain ⟨a,ha,t,htk,rfl⟩:=zCC h hI hin hg gk go (zBX h hg go)
 obtain ⟨d,j,pa⟩:=hI a ha
 obtain ⟨dg2,tk⟩:=pa.yes t htk
 have q:=tk.deed
 rw [hg] at q
 cases q
 have tout:=tk.out
 have tt:=zBX h hg go
 rcases tout with q | ⟨_,q2,q3⟩
 ·omega
 have ea : a.i = io:=hx a.i io d do' pa.deed ho pa.kd ok (by rw [ov,q3])
 have pd:=pa.deed
 rw [ea,ho] at pd
 cases pd
 obtain ⟨b,hbI,hbi⟩:=hin ip dp hp pk po
 obtain ⟨d2,j2,pb⟩:=hI b hbI
 have pd:=pb.deed
 rw [hbi,hp] at pd
 cases pd
 have c1:=tk.cs
 have c2:=tk.sm
 refine zFl h hN pa pb htk tk ge hb (fun u hu2=>?_)
 obtain ⟨du,tu⟩:=pb.yes u hu2
 have u1:=tu.cs
 have u2:=tu.sm
 rcases hk with ⟨r0,hrest⟩ | ⟨k,dk,rfl,hdk,hbf⟩
 ·exfalso
  rcases tu.out with q | ⟨p1,p2,p3⟩
  ·have:=hrest u.1 du tu.deed tu.kd
   omega
  ·rcases hr.is with ⟨_,q⟩ | ⟨i',d',rfl,_⟩
   ·exact q du (List.mem_of_getElem? tu.deed) ⟨tu.kd,p1,p3⟩
   ·omega
 ·have hkh : hadBy dp.x dk:=by
   rcases hr.is with ⟨q,_⟩ | ⟨i',d',q,h6,h7⟩
   ·omega
   ·obtain rfl : i' = k:=by omega
    rw [hdk] at h6
    cases h6
    exact h7
  obtain ⟨b',hb',v,hv,hv1⟩:=zCC h hI hin hdk hkh.1 hkh.2.1 (zBX h hdk hkh.2.1)
  obtain ⟨d3,j3,pb'⟩:=hI b' hb'
  obtain ⟨dv,tv⟩:=pb'.yes v hv
  have q:=tv.deed
  rw [hv1,hdk] at q
  cases q
  have tk0:=zBX h hdk hkh.2.1
  rcases tv.out with q | ⟨_,_,q5⟩
  ·omega
  have e1:=hx b'.i b.i d3 dp pb'.deed pb.deed pb'.kd pb.kd (by rw [← q5,hkh.2.2])
  have e2:=hu b' hb' b hbI e1
  subst e2
  rw [hu2] at hv
  cases hv
  have f1:=tv.fr
  have f2:=hbf.2
  have m1:=h.moves (show t.2.1 ≤ t.2.2 by omega) (by omega)
  have : t.2.1 < u.2.1:=mv_lt h (by omega) (by omega)
  omega
end
end
section
open Go.RowKit
structure TopRn (w : World) (r : Ending) (w' : World) (W : World) (l : List Thing) (yb ytb p c T : Nat) (s so : Int) (N : Nat) (S : List CM) (Yf : Nat → Yd) (An : List Int) (J : Nat → Nat) (g : Nat) (st : Int × Int × List CM) (n : Nat) : Prop where
 ret : r = .returned (pt yb)
 below : Below w.heap.size w W
 run : PRn W w' l ⟨yb,ytb,p,c,T,s,so,1,T⟩ N S Yf An J g
 T1 : 1 ≤ T
 T4 : T ≤ 4
 s1 : 1 ≤ s
 s4 : s ≤ 4
 n16 : N ≤ 16
 eq : (T : Int) * s = N
 ok : TopOk T st n
 is : st.2.2 = S
 few : n ≤ 300
theorem rightC44 {t s so d : Int} (t1 : 1 ≤ t) (t4 : t ≤ 4) (s1 : 1 ≤ s) (s4 : s ≤ 4) (o0 : 0 ≤ so) (o4 : so ≤ 4) (d0 : 0 ≤ d) (d3 : d ≤ 3) : rightC t s so d = true:=decide_eq_true ⟨by omega,by omega,by omega,by omega,by omega,by omega,by omega,by omega⟩
theorem zG6 (a0 a1 a2 mode most : Int) (a5 : Option Addr) (cap : Nat) (V : List LM) (w : World) (hV : RowL w a5 cap V) (hl : V.length ≤ 300) (hm : mode = 0 ∨ mode = 1 ∨ mode = 2) :
  Calls Tryz.prog 24 #[.int .i64 a0,.int .i64 a1,.int .i64 a2,.int .i64 mode,.int .i64 most,.slice a5 V.length cap] w fun r w' => ∃ W l yb ytb p c T s so N S Yf An J g,TopRn w r w' W l yb ytb p c T s so N S Yf An J g (topS T mode most V) V.length ∧ (T : Int) = 1 + a0 % 4:=by
 have HV:=zIn hV
 clear hV
 have HSC:=zIn (zE9 a0 a1 a2 mode most a5 cap V w HV.out hl hm)
 obtain ⟨t,ht⟩ : ∃ t,1 + a0 % 4 = t:=⟨_,rfl⟩
 obtain ⟨s,hs⟩ : ∃ s,1 + a1 % 4 = s:=⟨_,rfl⟩
 obtain ⟨so,hso⟩ : ∃ so,wrap64 ((IntKind.u64.wrap a2).tmod 5) = so:=⟨_,rfl⟩
 have ho:=src5 a2
 rw [ht,hs,hso] at HSC
 rw [hso] at ho
 rw [ht]
 have hR:=zIn (rightC44 (t:=t) (s:=s) (so:=so) (d:=1) (by omega) (by omega) (by omega) (by omega) ho.1 ho.2 (by decide) (by decide))
 have HOK:=zIn (TopOk.of (T:=t) mode most (by omega) (by omega) V (by omega))
 have HTS:=zIn (show 1 ≤ t ∧ t ≤ 4 ∧ 1 ≤ s ∧ s ≤ 4 by omega)
 obtain ⟨S,hS⟩ : ∃ S,(topS t mode most V).2.2 = S:=⟨_,rfl⟩
 rw [hS] at HSC
 have HSE:=zIn hS
 have HSG:=zIn (hS ▸ HOK.out.right)
 have hSl : S.length ≤ 300:=by have h:=HOK.out.len; rw [hS] at h; omega
 have HL:=zIn hl
 clear ht hs hso ho hS hl
 go_enter Tryz.func24,Tryz.ntmps24
 go_wp2_with fail
 refine HSC.out.mono ?_
 rintro r w1 ⟨A1,cp1,rfl,hb1,hrow⟩
 have HB1:=zIn (zAA hb1 (.cells #[.int .i64 t,.int .i64 s,.int .i64 so,.int .i64 1,.slice A1 S.length cp1] 29))
 have HI:=zIn ((IsAt.own hrow).later (zAA (Below.refl _ _) (.cells #[.int .i64 t,.int .i64 s,.int .i64 so,.int .i64 1,.slice A1 S.length cp1] 29)))
 clear hb1 hrow HSC
 go_wp2_with fail
 refine (zC5 t s so 1 A1 cp1 S _ HI.out (fun m hm=>(HSG.out m hm).2) (by omega)).mono ?_
 rintro r w3 ⟨vE,eE,rfl,hb3,hE⟩
 obtain ⟨rfl,ho⟩:=hE.yes hR.out (by omega) (fun m hm=>(HSG.out m hm).1)
 obtain ⟨Ab,cpb,rfl⟩:=zAK ho
 have HB3:=zIn (zAE HB1.out hb3)
 have HIB:=zIn (IsAt.own ho)
 have hcb:=zBV ho
 have HBY:=zIn (zC3 hR.out (fun m hm=>(HSG.out m hm).1))
 have hlen : ([t,s,so,1] ++ encs S).length ≤ 1000000:=by
  have:=zB8 S
  rw [List.length_append]
  show 4 + _ ≤ _
  omega
 clear hb3 ho hE HB1 HI
 obtain ⟨lb,hlb⟩ : ∃ lb,[t,s,so,1] ++ encs S = lb:=⟨_,rfl⟩
 rw [hlb] at hcb hlen HIB HBY ⊢
 have HLB:=zIn hlb
 clear hlb
 go_wp2_with fail
 refine (zDJ Ab lb cpb w3 HIB.out HBY.out hcb hlen).mono ?_
 rintro r w4 (⟨w5,v',n',e',hD',he',rfl,hb⟩ | ⟨T,s',so',d',N,ms',W,lx,yb,ytb,p,c,Yf,An,J,g,hP⟩)
 ·exact absurd (hD'.yes HLB.out.symm hR.out HSG.out (by omega)).1 he'
 ·obtain ⟨h1,h2,h3,h4,h5,rfl,h7,h8⟩:=hP
  have e1:=HLB.out.trans h1
  simp only [List.cons_append,List.nil_append,List.cons.injEq] at e1
  obtain ⟨rfl,rfl,rfl,rfl,e6⟩:=e1
  obtain rfl:=zDg HSG.out h2 e6
  have HP:=zIn h8
  have HB4:=zIn (zAE HB3.out h7)
  have HLY:=zIn h5
  clear h1 h2 h3 h4 h5 h7 h8 e6 HB3 HIB HBY
  go_wp2_with fail
  go_ret
  refine ⟨W,lx,yb,ytb,p,c,T,s,so,N,S,Yf,An,J,g,⟨rfl,HB4.out,HP.out,by have:=HTS.out; omega,by have:=HTS.out; omega,by have:=HTS.out; omega,by have:=HTS.out; omega, ?_,HLY.out.eq,HOK.out,HSE.out,HL.out⟩,rfl⟩
  have h1:=HLY.out.eq
  have h2 : (T : Int) * s ≤ 4 * 4:=Int.mul_le_mul (by have:=HTS.out; omega) (by have:=HTS.out; omega) (by have:=HTS.out; omega) (by omega)
  omega
end
section
open Go.RowKit
def BA : YB:=⟨0,0,0,0,(2 : Nat),2,0,0,2⟩
def YA : Yd:=((yd0 4 2).call 0 0 1 5 0 (wkB BA 4 0 false 1 5 0)).call 1 0 0 6 0 (wkB BA 4 1 false 0 6 0)
theorem lA_8 : (lookF BA 4 (fun _=>0) YA 8).1.ts = [none,none] ∧ (lookF BA 4 (fun _=>0) YA 8).2 = 8 ∧ (lookF BA 4 (fun _=>0) YA 8).1.moves = 10 ∧ ∃ d0 d1,(lookF BA 4 (fun _=>0) YA 8).1.ds = [d0,d1] ∧ (d0.kd = 0 ∧ d0.e = 1 ∧ d0.x = 5 ∧ d0.ok = true ∧ d0.till = 8) ∧ (d1.kd = 0 ∧ d1.e = 0 ∧ d1.x = 6 ∧ d1.ok = true ∧ d1.till = 9) :=
 ⟨rfl,rfl,rfl,_,_,rfl,⟨rfl,rfl,rfl,rfl,rfl⟩,⟨rfl,rfl,rfl,rfl,rfl⟩⟩
theorem lA_ts : ∀ j,j < 8 → ∃ (a : Option (Wk × Nat)) (k : Pu) (i : Nat),(lookF BA 4 (fun _=>0) YA j).1.ts = [a,some (.pu k,i)] ∧ ∀ T i',a = some (T,i') → ∃ k',T = .pu k'
 | 0,_=>⟨_,_,_,rfl,fun T i' h=>by cases h; exact ⟨_,rfl⟩⟩
 | 1,_=>⟨_,_,_,rfl,fun T i' h=>by cases h; exact ⟨_,rfl⟩⟩
 | 2,_=>⟨_,_,_,rfl,fun T i' h=>by cases h; exact ⟨_,rfl⟩⟩
 | 3,_=>⟨_,_,_,rfl,fun T i' h=>by cases h; exact ⟨_,rfl⟩⟩
 | 4,_=>⟨_,_,_,rfl,fun T i' h=>by cases h; exact ⟨_,rfl⟩⟩
 | 5,_=>⟨_,_,_,rfl,fun T i' h=>by cases h; exact ⟨_,rfl⟩⟩
 | 6,_=>⟨_,_,_,rfl,fun T i' h=>by cases h; exact ⟨_,rfl⟩⟩
 | 7,_=>⟨_,_,_,rfl,fun T i' h=>by cases h⟩
 | j + 8,h=>by omega
theorem finA {j s : Nat} {Y : Yd} (h : Tick BA 4 YA j Y s) (hi : ∀ k,k < 2 → Y.ts[k]? = some none) : s = 8 ∧ Y = (lookF BA 4 (fun _=>0) YA 8).1:=by
 have h8 : ∀ a,a ∈ (lookF BA 4 (fun _=>0) YA 8).1.ts → a = none:=fun a ha=>by
  rw [lA_8.1] at ha
  simpa using ha
 have hst:=zD9 h8
 have hl:=h.look (z:=fun _=>0) (fun j T i z' hk _=>by
  rcases Nat.lt_or_ge j 8 with hj | hj
  ·obtain ⟨a,k,q,e,hp⟩:=lA_ts j hj
   rw [e] at hk
   rcases (show j % 2 = 0 ∨ j % 2 = 1 by omega) with e2 | e2
   ·have hk' : [a,some (Wk.pu k,q)][j % 2]? = some (some (T,i)):=hk
    rw [e2] at hk'
    have hk2 : a = some (T,i):=by simpa using hk'
    obtain ⟨k',rfl⟩:=hp T i hk2
    rfl
   ·have hk' : [a,some (Wk.pu k,q)][j % 2]? = some (some (T,i)):=hk
    rw [e2] at hk'
    cases hk'
    rfl
  ·obtain ⟨k,rfl⟩ : ∃ k,j = 8 + k:=⟨j - 8,by omega⟩
   rw [hst] at hk
   have:=h8 _ (List.mem_of_getElem? hk)
   cases this)
 rcases Nat.lt_or_ge j 8 with hj | hj
 ·obtain ⟨a,k,q,e,_⟩:=lA_ts j hj
  rw [hl] at e
  have:=hi 1 (by decide)
  have e' : Y.ts = _:=e
  rw [e'] at this
  cases this
 ·obtain ⟨k,rfl⟩ : ∃ k,j = 8 + k:=⟨j - 8,by omega⟩
  rw [hst] at hl
  exact ⟨(congrArg Prod.snd hl).symm.trans lA_8.2.1,(congrArg Prod.fst hl).symm⟩
theorem zEV {B : YB} {N j s : Nat} {Y0 Y : Yd} (h : Tick B N Y0 j Y s) : Y.ds.length = Y0.ds.length:=by
 induction h with
 | zero=>rfl
 | skip h hn ih=>exact ih
 | @step j Y s h T i z hk ha ih =>
  rw [← ih]
  show (if _ then Y.ds else Y.ds.modify i _).length = _
  split
  ·rfl
  ·rw [List.length_modify]
theorem yA_of {yb ytb p c : Nat} {Yf : Nat → Yd} {An : List Int} (h : PTr ⟨yb,ytb,p,c,(2 : Nat),2,0,0,2⟩ 4 [⟨0,0,0,1,5,0,0⟩,⟨0,1,0,0,6,0,0⟩] Yf An) : Yf 2 = YA:=by
 obtain ⟨a,ha⟩ : ∃ a,An[0]? = some a:=⟨_,List.getElem?_eq_getElem (by rw [h.len]; decide)⟩
 obtain ⟨a',ha'⟩ : ∃ a,An[1]? = some a:=⟨_,List.getElem?_eq_getElem (by rw [h.len]; decide)⟩
 have h1:=h.at' 0 _ a rfl ha
 have h2:=h.at' 1 _ a' rfl ha'
 have hz : Yf 0 = yd0 4 2:=h.tr.zero
 rw [hz] at h1
 have e1:=(zF8 (k:=0) (e:=1) (x:=5) h1 (by show (0 : Int) < (2 : Nat); decide) (.inr rfl) rfl).2
 have h2' : PDo _ 4 ⟨0,1,0,0,6,0,0⟩ (Yf 1) (Yf 2) a':=h2
 have e1' : Yf 1 = _:=e1
 rw [e1'] at h2'
 exact (zF8 (k:=1) (e:=0) (x:=6) h2' (by show (1 : Int) < (2 : Nat); decide) (.inl rfl) rfl).2
theorem aliveV {B : YB} {Yg : Nat → Yd} {m : Nat} (hs : B.s = 2) (ht : YTr B 4 Yg m) {n0 : Nat} (hn0 : n0 < m) (h0 : Yg n0 = (lookF BA 4 (fun _=>0) YA 8).1) {T0 : Wk} (h1 : Yg (n0 + 1) = (Yg n0).call 0 1 0 0 0 T0) (hl : (Yg m).ds.length = 3) (hi : ∀ k,k < B.T → (Yg m).ts[k]? = some none) :
  ∃ d0 d1 d2,(Yg m).ds = [d0,d1,d2] ∧ d2.ok = true ∧ d2.v = 6:=by
 obtain ⟨_,_,hmv,d0,d1,hds,p0,p1⟩:=lA_8
 have hA:=(ht.all m (Nat.le_refl _)).ok
 have L0:=ht.later (a:=n0) (b:=m) (by omega) (Nat.le_refl _)
 have L1:=ht.later (a:=n0 + 1) (b:=m) (by omega) (Nat.le_refl _)
 have g0 : (Yg m).ds[0]? = some d0:=by
  obtain ⟨d',a,_,_,_,_,_,_,b⟩:=L0.deed 0 d0 (by rw [h0,hds]; rfl)
  rw [b (by omega)] at a
  exact a
 have g1 : (Yg m).ds[1]? = some d1:=by
  obtain ⟨d',a,_,_,_,_,_,_,b⟩:=L0.deed 1 d1 (by rw [h0,hds]; rfl)
  rw [b (by omega)] at a
  exact a
 obtain ⟨d2,g2,_,k2,e2,_,_,f2,_⟩:=L1.deed 2 ⟨(0 : Nat),1,0,0,0,(Yg n0).moves, -1,false,0,0,0⟩ (by
  rw [h1]
  show ((Yg n0).ds ++ [_])[2]? = _
  rw [h0,hds]
  rfl)
 have k2' : d2.kd = 1:=k2
 have e2' : d2.e = 0:=e2
 have f2' : d2.fr = 10:=by
  rw [f2]
  show ((Yg n0).moves : Int) = 10
  rw [h0,hmv]
  rfl
 have over : ∀ (i : Nat) (d : Dd),(Yg m).ds[i]? = some d → 0 ≤ d.till:=fun i d hd=>by
  obtain ⟨⟨w,_,hw,g3⟩,q0,_,g6⟩:=hA.deed i d hd
  by_cases e : d.till = -1
  ·obtain ⟨T,hT⟩:=g3 e
   rw [hi w hw] at hT
   cases hT
  ·have:=(g6 e).1
   omega
 have hall : ∀ (i : Nat) (d : Dd),(Yg m).ds[i]? = some d → (i = 0 ∧ d = d0) ∨ (i = 1 ∧ d = d1) ∨ (i = 2 ∧ d = d2):=fun i d hd=>by
  have hlt:=(List.getElem?_eq_some_iff.1 hd).1
  rw [hl] at hlt
  match i,hlt,hd with
  | 0,_,hd=>rw [g0] at hd; cases hd; exact .inl ⟨rfl,rfl⟩
  | 1,_,hd=>rw [g1] at hd; cases hd; exact .inr (.inl ⟨rfl,rfl⟩)
  | 2,_,hd=>rw [g2] at hd; cases hd; exact .inr (.inr ⟨rfl,rfl⟩)
 have hx : DOwn (Yg m).ds:=fun i i' d d' q q' r r' e=>by
  rcases hall i d q with ⟨rfl,rfl⟩ | ⟨rfl,rfl⟩ | ⟨rfl,rfl⟩ <;> rcases hall i' d' q' with ⟨rfl,rfl⟩ | ⟨rfl,rfl⟩ | ⟨rfl,rfl⟩ <;> omega
 have b0 : dBef d0 d2:=⟨by omega,by omega⟩
 have b1 : dBef d1 d2:=⟨by omega,by omega⟩
 have ok2 : d2.ok = true:=by
  cases hok : d2.ok with
  | true=>rfl
  | false =>
   obtain ⟨k,dk,q1,q2,q3,q4,q5⟩:=zCY ht (fun g dg hg _=>over g dg hg) g2 k2' hok g1 p1.1 p1.2.2.2.1 b1
   rcases hall k dk q1 with ⟨_,rfl⟩ | ⟨_,rfl⟩ | ⟨_,rfl⟩
   ·omega
   ·omega
   ·rw [hok] at q3
    cases q3
 refine ⟨d0,d1,d2, ?_,ok2, ?_⟩
 ·refine List.ext_getElem? (fun i=>?_)
  rcases Nat.lt_or_ge i 3 with h | h
  ·match i,h with
   | 0,_=>exact g0
   | 1,_=>exact g1
   | 2,_=>exact g2
  ·rw [List.getElem?_eq_none (by omega),List.getElem?_eq_none (by exact h)]
 ·obtain ⟨i,d,q1,q2,_,q4,_⟩:=zBn ht g2 k2' ok2 (over 2 d2 g2)
  rcases hall i d q1 with ⟨rfl,rfl⟩ | ⟨rfl,rfl⟩ | ⟨_,rfl⟩
  ·exfalso
   refine zHQ ht (by decide) hx g2 k2' ok2 (.inl e2') g0 p0.1 q4.symm g1 p1.1 p1.2.2.2.1 b1 (r := -1) ⟨.inl ⟨rfl,fun d hd hh=>?_⟩⟩ (.inl ⟨by decide,fun k dk hk _=>over k dk hk⟩) ?_
   ·obtain ⟨i,hi2⟩:=List.mem_iff_getElem?.1 hd
    have h1:=hh.1
    have h2:=hh.2.2
    rcases hall i d hi2 with ⟨_,rfl⟩ | ⟨_,rfl⟩ | ⟨_,rfl⟩ <;> omega
   ·unfold dNear
    rw [e2',if_pos p1.2.1]
    left
    omega
  ·omega
  ·omega
theorem zBg (w : World) : Calls Tryz.prog 23 #[] w fun r w'=>r = .returned (.bool true) ∧ Below w.heap.size w w':=by
 have hn1:=zAA (Below.refl w.heap.size w) (.cells (flatM [⟨0,0,0,1,5,0,0⟩,⟨0,1,0,0,6,0,0⟩]).toArray 39)
 have hn2:=zAA (Below.refl (w.alloc (.cells (flatM [⟨0,0,0,1,5,0,0⟩,⟨0,1,0,0,6,0,0⟩]).toArray 39)).heap.size _) (.cells #[.int .i64 2,.int .i64 2,.int .i64 0,.int .i64 0,.slice (some ⟨w.heap.size,0,none⟩) 2 2] 29)
 have hI : IsAt (w.alloc (.cells (flatM [⟨0,0,0,1,5,0,0⟩,⟨0,1,0,0,6,0,0⟩]).toArray 39)) (some ⟨w.heap.size,0,none⟩) (flatM [⟨0,0,0,1,5,0,0⟩,⟨0,1,0,0,6,0,0⟩]):=fun _=>⟨w.heap.size,0,rfl,by simp,fun j u hj=>by
  rw [Nat.zero_add]
  exact (IsObj.made w (flatM [⟨0,0,0,1,5,0,0⟩,⟨0,1,0,0,6,0,0⟩]) 39).at' j u hj⟩
 have HI:=zIn (hI.later hn2)
 have HB:=zIn (zAE hn1 hn2)
 clear hn1 hn2 hI
 have hg : ∀ m ∈ ([⟨0,0,0,1,5,0,0⟩,⟨0,1,0,0,6,0,0⟩] : List CM),m.Good:=fun m hm=>by
  simp only [List.mem_cons,List.not_mem_nil,or_false] at hm
  rcases hm with rfl | rfl
  ·exact ⟨.inl ⟨rfl,by decide,by decide,rfl,.inr rfl,.inl ⟨rfl,rfl⟩⟩,by decide,by decide⟩
  ·exact ⟨.inl ⟨rfl,by decide,by decide,rfl,.inl rfl,.inl ⟨rfl,rfl⟩⟩,by decide,by decide⟩
 have HG:=zIn hg
 clear hg
 go_enter Tryz.func23,Tryz.ntmps23
 go_wp2_with fail
 refine (zC5 2 2 0 0 (some ⟨w.heap.size,0,none⟩) 2 [⟨0,0,0,1,5,0,0⟩,⟨0,1,0,0,6,0,0⟩] _ HI.out (fun m hm=>(HG.out m hm).2) (by decide)).mono ?_
 rintro r w3 ⟨vE,eE,rfl,hb3,hE⟩
 have hR : rightC 2 2 0 0 = true:=by decide
 obtain ⟨rfl,ho⟩:=hE.yes hR (by decide) (fun m hm=>(HG.out m hm).1)
 obtain ⟨Ab,cpb,rfl⟩:=zAK ho
 have HB3:=zIn (zAE HB.out hb3)
 have HIB:=zIn (IsAt.own ho)
 have hcb:=zBV ho
 have HBY:=zIn (zC3 hR (fun m hm=>(HG.out m hm).1))
 have HRR:=zIn hR
 obtain ⟨lb,hlb⟩ : ∃ lb,[2,2,0,0] ++ encs [⟨0,0,0,1,5,0,0⟩,⟨0,1,0,0,6,0,0⟩] = lb:=⟨_,rfl⟩
 have hlen : lb.length ≤ 1000000:=by rw [← hlb]; decide
 rw [hlb] at hcb HIB HBY ⊢
 have HLB:=zIn hlb
 clear hb3 ho hE hR hlb HB HI
 go_wp2_with fail
 refine (zDJ Ab lb cpb w3 HIB.out HBY.out hcb hlen).mono ?_
 rintro r w4 (⟨w5,v',n',e',hD',he',rfl,hb⟩ | ⟨T,s',so',d',N,ms',W,lx,yb,ytb,p,c,Yf,An,J,g,hP⟩)
 ·exact absurd (hD'.yes HLB.out.symm HRR.out HG.out (by decide)).1 he'
 obtain ⟨h1,h2,h3,h4,h5,rfl,h7,h8⟩:=hP
 have e1:=HLB.out.trans h1
 simp only [List.cons_append,List.nil_append,List.cons.injEq] at e1
 obtain ⟨e2,rfl,rfl,rfl,e6⟩:=e1
 obtain rfl : T = 2:=by omega
 obtain rfl : N = 4:=by have:=h5.eq; omega
 obtain rfl:=zDg HG.out h2 e6
 have HP:=zIn h8
 have HB4:=zIn (zAE HB3.out h7)
 clear h1 h2 h3 h4 h5 h7 h8 e6 e2 HB3 HIB HBY hcb hlen
 simp only [List.length_cons,List.length_nil]
 go_wp2_with fail
 refine (zBP (n:=2) HP.out.yd HP.out.tr.tr (by decide) (by show 2 ≤ 4; decide) (by decide) (by show (2 : Int) ≤ 4; decide) (by show (0 : Int) ≤ 3; decide)).mono ?_
 rintro r w6 ⟨s,j,l',Y',J',Yg,rfl,hF⟩
 obtain ⟨hs,hY8⟩:=finA (j:=j) (s:=s) (Y:=Y') (by have h:=hF.tick.like (B':=BA) ⟨rfl,rfl,rfl,rfl,rfl⟩; rw [yA_of HP.out.tr] at h; exact h) (fun k hk=>hF.idle k hk)
 subst hs
 have HF:=zIn hF
 have HY8:=zIn hY8
 clear hF hY8 HP
 go_wp2_with fail
 refine (HF.out.yd.call (by decide) 0 (by show 0 < 2; decide) true (kd:=1) rfl 0 0 0 (.inl rfl) (by decide) (by decide)).mono ?_
 rintro r w7 ⟨l7,J7,Y7,hd7,hg7,h7⟩
 rcases h7 with ⟨_,_,a,ha⟩ | ⟨rfl,hq,rfl⟩
 ·have:=HF.out.idle 0 (by show 0 < 2; decide)
  rw [this] at ha
  cases ha
 have htr7:=HF.out.tr.callN HF.out.at' (k:=0) true (kd:=1) (e:=0) (x:=0) (s:=0) rfl (.inl rfl) (by decide) (by decide) hq (by decide)
 have HT7:=zIn htr7
 have HD7:=zIn hd7
 clear htr7 hd7 hg7 hq
 go_wp2_with fail
 refine (zBP (n:=11) (Yf:=fun i=>if i ≤ 2 + 8 then Yg i else Y'.call 0 1 0 0 0 (wkB ⟨yb,ytb,p,c,(2 : Nat),2,0,0,2⟩ 4 0 true 0 0 0)) HD7.out HT7.out (by decide) (by show 2 ≤ 4; decide) (by decide) (by show (2 : Int) ≤ 4; decide) (by show (0 : Int) ≤ 3; decide)).mono ?_
 rintro r w8 ⟨s2,j2,l8,Y8,J8,Yg8,rfl,hF8⟩
 have hlen8 : (Yg8 (11 + s2)).ds.length = 3:=by
  rw [hF8.at',zEV hF8.tick]
  show (Y'.ds ++ [_]).length = 3
  rw [HY8.out]
  obtain ⟨_,_,_,d0,d1,hds,_⟩:=lA_8
  rw [hds]
  rfl
 obtain ⟨d0,d1,d2,hds,hok,hv⟩:=aliveV (n0:=10) rfl hF8.tr (by omega) (by rw [hF8.same 10 (by decide)]; show (if 10 ≤ 2 + 8 then Yg 10 else _) = _; rw [if_pos (by decide), ← HY8.out]; exact HF.out.at') (by
  rw [hF8.same 11 (by decide),hF8.same 10 (by decide)]
  show (if 11 ≤ 2 + 8 then _ else _) = Yd.call (if 10 ≤ 2 + 8 then Yg 10 else _) _ _ _ _ _ _
  rw [if_neg (by decide),if_pos (by decide)]
  have e:=HF.out.at'
  rw [show Yg 10 = Y' from e]) hlen8 (fun k hk=>by rw [hF8.at']; exact hF8.idle k hk)
 rw [hF8.at'] at hds
 have HF8:=zIn hF8
 have HV:=zIn (And.intro hds (And.intro hok hv))
 have hdl : Y8.ds.length = 3:=by rw [hds]; rfl
 clear hF8 hlen8 hds hok hv HD7 HT7 HF HY8
 go_wp2_with fail
 refine (HF8.out.yd.deeds (by have:=HF8.out.few; omega)).mono ?_
 rintro r w9 ⟨v9,rfl,hrow,hb9⟩
 obtain ⟨A9,cp9,rfl⟩:=zAK hrow
 have HZ:=zIn (zAE HB4.out (HF8.out.yd.later hb9).h.below)
 have hat : ∃ b9,A9 = some ⟨b9,0,none⟩ ∧ AtDd w9 b9 (2 * 11) d2:=by
  rcases hrow.2 with ⟨hv,h0⟩ | ⟨g9,cap',cur,hv,_⟩
  ·omega
  ·cases hv
   exact ⟨g9,rfl,AtDd.row hrow (by rw [HV.out.1]; rfl)⟩
 obtain ⟨b9,rfl,hat⟩:=hat
 have c7:=hat.c7
 have c8:=hat.c8
 rw [HV.out.2.1] at c7
 rw [HV.out.2.2] at c8
 clear hrow hb9 hat
 rw [hdl]
 clear hdl
 go_wp2_with fail
 go_ret
 exact ⟨rfl,HZ.out⟩
end
section
open Go.RowKit
theorem zHZ {T mode most : Int} {Q : CM → Prop} (h0 : ∀ (v : LM) (x : Int),v.base.k = 0 → (v.base.ck = 0 → Q { v.base with who:=v.base.who % T,ce:=topEnd mode v.base,v:=x }) ∧ (v.base.ck ≠ 0 → Q { v.base with who:=v.base.who % T,ce:=topEnd mode v.base })) (h1 : ∀ v : LM,v.base.k ≠ 0 → v.base.k ≠ 2 → Q { v.base with who:=v.base.who % T }) (h2 : ∀ v : LM,v.base.k = 2 → Q v.base) (V : List LM) : ∀ m ∈ (topS T mode most V).2.2,Q m:=by
 have key : ∀ (V : List LM) (st : Int × Int × List CM),(∀ m ∈ st.2.2,Q m) → ∀ m ∈ (V.foldl (topOne T mode most) st).2.2,Q m:=by
  intro V
  induction V with
  | nil=>exact fun st h=>h
  | cons v V ih =>
   intro st h
   rw [List.foldl_cons]
   refine ih _ ?_
   obtain ⟨c,p,l⟩:=st
   have more : ∀ x : CM,Q x → ∀ m ∈ l ++ [x],Q m:=fun x hx m hm=>by
    rcases List.mem_append.1 hm with hm | hm
    ·exact h m hm
    ·rw [List.mem_singleton.1 hm]
     exact hx
   by_cases hk : v.base.k = 0
   ·by_cases hc : c = most
    ·rw [zCa hk hc]
     exact h
    ·by_cases hck : v.base.ck = 0
     ·rw [zDI hk hc hck]
      exact more _ ((h0 v _ hk).1 hck)
     ·rw [zDN hk hc hck]
      exact more _ ((h0 v 0 hk).2 hck)
   ·rcases LM.base_rest hk with ⟨q,_⟩ | ⟨q,_⟩
    ·rw [zCl q]
     exact more _ (h1 v hk (by omega))
    ·rw [zCK q]
     exact more _ (h2 v q)
 exact key V (0,0,[]) (fun m hm=>by cases hm)
theorem zDo {T mode most : Int} (V : List LM) : ∀ m ∈ (topS T mode most V).2.2,m.k = 2 → m.n ≤ 32768:=by
 have e : ∀ v : LM,v.base.k = 2 → v.base.n ≤ 32768:=fun v hk=>by
  rcases LM.base_rest (v:=v) (by omega) with ⟨q,_⟩ | ⟨_,q⟩
  ·omega
  ·rw [q]
   show 1 + v.n % 32768 ≤ 32768
   omega
 exact zHZ (Q:=fun m=>m.k = 2 → m.n ≤ 32768) (fun v x hk=>⟨fun _ q=>absurd (show v.base.k = 2 from q) (by omega),fun _ q=>absurd (show v.base.k = 2 from q) (by omega)⟩) (fun v _ h2 q=>absurd q h2) (fun v hk _=>e v hk) V
structure AsksOk (l : List (Int × Int × Int × Int × Int)) : Prop where
 kind : ∀ a ∈ l,(a.2.1 = 0 ∨ a.2.1 = 1) ∧ (a.2.2.1 = 0 ∨ a.2.2.1 = 1)
 own : l.Pairwise (fun a b=>a.2.1 = 0 → b.2.1 = 0 → a.2.2.2.1 < b.2.2.2.1)
theorem AsksOk.dkind {ds : List Dd} (h : AsksOk (ds.map Dd.ask)) {d : Dd} (hd : d ∈ ds) : (d.kd = 0 ∨ d.kd = 1) ∧ (d.e = 0 ∨ d.e = 1):=h.kind _ (List.mem_map_of_mem hd)
theorem AsksOk.down {ds : List Dd} (h : AsksOk (ds.map Dd.ask)) : DOwn ds:=by
 have hp:=h.own
 rw [List.pairwise_map] at hp
 have key : ∀ (i j : Nat) (d d' : Dd),i < j → ds[i]? = some d → ds[j]? = some d' → d.kd = 0 → d'.kd = 0 → d.x < d'.x:=fun i j d d' hij hi hj k1 k2=>by
  obtain ⟨a1,a2⟩:=List.getElem?_eq_some_iff.1 hi
  obtain ⟨b1,b2⟩:=List.getElem?_eq_some_iff.1 hj
  have:=List.pairwise_iff_getElem.1 hp i j a1 b1 hij
  rw [a2,b2] at this
  exact this k1 k2
 intro i i' d d' hi hi' k1 k2 e
 rcases Nat.lt_trichotomy i i' with h1 | h1 | h1
 ·have:=key i i' d d' h1 hi hi' k1 k2
  omega
 ·exact h1
 ·have:=key i' i d' d h1 hi' hi k2 k1
  omega
theorem TopOk.asks {B : YB} {N : Nat} {S : List CM} {Yf : Nat → Yd} {An : List Int} {T : Int} {st : Int × Int × List CM} {n : Nat} (h : TopOk T st n) (hS : st.2.2 = S) (hP : PTr B N S Yf An) : AsksOk ((Yf S.length).ds.map Dd.ask):=by
 obtain ⟨h1,h2⟩:=hP.deeds S.length (Nat.le_refl _)
 rw [List.take_length] at h1
 refine ⟨fun a ha=>?_,List.Pairwise.sublist h1 ?_⟩
 ·obtain ⟨d,hd,rfl⟩:=List.mem_map.1 ha
  exact h2 d hd
 ·rw [List.pairwise_map]
  have hown:=h.own
  rw [hS] at hown
  refine (List.Pairwise.sublist List.filter_sublist hown).imp_of_mem (fun {a b} ha hb hab k1 k2=>?_)
  have ka : a.k = 0:=of_decide_eq_true (List.mem_filter.1 ha).2
  have kb : b.k = 0:=of_decide_eq_true (List.mem_filter.1 hb).2
  exact hab ka k1 kb k2
theorem zIf {ds : List Dd} {i : Nat} {f : Dd → Dd} (hk : ∀ d,(f d).ask = d.ask) : (ds.modify i f).map Dd.ask = ds.map Dd.ask:=by
 refine List.ext_getElem? (fun j=>?_)
 rw [List.getElem?_map,List.getElem?_map]
 by_cases e : i = j
 ·subst e
  cases hd : ds[i]? with
  | none=>rw [List.getElem?_modify,hd]; rfl
  | some d=>rw [zBJ hd]; exact congrArg some (hk d)
 ·rw [zBW e]
theorem zHU {Y : Yd} {P : Pl} {w i : Nat} {T : Wk} {z : Int} : (Y.step P w T i z).ds.map Dd.ask = Y.ds.map Dd.ask:=by
 show (if _ then Y.ds else Y.ds.modify i _).map Dd.ask = _
 split
 ·rfl
 ·have key : ∀ d : Dd,(d.over Y.moves (T.step P Y.C Y.now z)).ask = d.ask:=fun d=>by
   obtain ⟨s1,s2,s3,s4,s5,_,_⟩:=Dd.over_same d Y.moves (T.step P Y.C Y.now z)
   unfold Dd.ask
   rw [s1,s2,s3,s4,s5]
  exact zIf key
theorem zB7 {B : YB} {N j s : Nat} {Y0 Y : Yd} (h : Tick B N Y0 j Y s) : Y.ds.map Dd.ask = Y0.ds.map Dd.ask:=by
 induction h with
 | zero=>rfl
 | skip h hn ih=>exact ih
 | step h T i z hk ha ih=>rw [← ih]; exact zHU
theorem zCb {pl : Nat → Pl} {t n : Nat} {Y : Yd} (h : YOk pl t n Y) (hi : ∀ k,k < t → Y.ts[k]? = some none) {i : Nat} {d : Dd} (hd : Y.ds[i]? = some d) : 0 ≤ d.till:=by
 obtain ⟨⟨w,_,hw,g3⟩,q0,_,g6⟩:=h.deed i d hd
 by_cases e : d.till = -1
 ·obtain ⟨T,hT⟩:=g3 e
  rw [hi w hw] at hT
  cases hT
 ·have:=(g6 e).1
  omega
end
section
open Go.RowKit
theorem YOk.fitT {pl : Nat → Pl} {t n : Nat} {Y : Yd} (h : YOk pl t n Y) (ht : t ≤ 1000) (hn : n ≤ 1000000) {d : Dd} (hd : d ∈ Y.ds) : d.Fit:=by
 obtain ⟨i,hi⟩:=List.mem_iff_getElem?.1 hd
 obtain ⟨⟨w,hw,hwt,_⟩,f0,f1,f2⟩:=h.deed i d hi
 have hm:=h.most
 refine ⟨WalkArith.wf_i64 (by omega),by omega,by omega, ?_, ?_⟩
 ·by_cases e : d.till = -1
  ·omega
  ·have:=(f2 e).1
   omega
 ·by_cases e : d.till = -1
  ·omega
  ·have:=(f2 e).2
   omega
theorem zIS {w : World} {base cap : Nat} {A : Option Addr} {L : List Dd} (h : w.ownsRow base 77 11 (.slice A L.length cap) L.length (flatD L)) (hF : ∀ d ∈ L,d.Fit) : ∃ tb,IsDds w A L.length cap tb 0 L:=by
 have hc:=zBV h
 rcases h.2 with ⟨hv,h0⟩ | ⟨g,cap',cur,hv,_,hh,_⟩
 ·have hl : L = []:=List.eq_nil_of_length_eq_zero h0
  subst hl
  exact ⟨0,rfl,hc,fun hp=>absurd hp (Nat.lt_irrefl _),fun i d hd=>by cases hd⟩
 ·cases hv
  refine ⟨g,rfl,hc,fun _=>⟨rfl,(Array.getElem?_eq_some_iff.1 hh).1⟩,fun i d hd=>⟨?_,hF d (List.mem_of_getElem? hd)⟩⟩
  rw [Nat.zero_add]
  exact AtDd.row h hd
theorem YdL.deedsT {W w : World} {l : List Thing} {B : YB} {N n : Nat} {Y : Yd} {J : Nat → Nat} (h : YdL W w l B N Y J n) (hn : n ≤ 1000000) (hT : B.T ≤ 1000) : Calls Tryz.prog 21 #[pt B.yb] w fun r w' => ∃ A cp tb,r = .returned (.slice A Y.ds.length cp) ∧ Below w.heap.size w w' ∧ IsDds w' A Y.ds.length cp tb 0 Y.ds:=by
 refine (h.deeds hn).mono ?_
 rintro r w' ⟨v,rfl,hrow,hb⟩
 obtain ⟨A,cp,rfl⟩:=zAK hrow
 obtain ⟨tb,hd⟩:=zIS hrow (fun d hd=>h.ok.fitT hT hn hd)
 exact ⟨A,cp,tb,rfl,hb,hd⟩
theorem IsDds.one' {w : World} {a : Option Addr} {len cap tb off : Nat} {l : List Dd} (h : IsDds w a len cap tb off l) {i : Nat} {d : Dd} (hd : l[i]? = some d) : a = some ⟨tb,off,none⟩ ∧ tb < w.heap.size ∧ AtDd w tb (off + i * 11) d:=by
 have hi:=(List.getElem?_eq_some_iff.1 hd).1
 obtain ⟨h1,h2⟩:=h.2.2.1 (by rw [← h.1]; omega)
 exact ⟨h1,h2,(h.2.2.2 i d hd).1⟩
theorem IsDds.one0 {w : World} {a : Option Addr} {len cap tb : Nat} {l : List Dd} (h : IsDds w a len cap tb 0 l) {i : Nat} {d : Dd} (hd : l[i]? = some d) : a = some ⟨tb,0,none⟩ ∧ tb < w.heap.size ∧ AtDd w tb (i * 11) d:=by
 have:=h.one' hd
 rw [Nat.zero_add] at this
 exact this
end
section
open Go.RowKit
open Go.RowKit Go.Shelf Go.Lib Go.Sort
def tInts (base : Nat) (v : Value) (S : List Nat) : Thing :=
 ⟨fun w => ∃ a cap,v = .slice a S.length cap ∧ S.length ≤ cap ∧ (0 < S.length → ∃ g,a = some ⟨g,0,none⟩ ∧ base ≤ g ∧ ∀ i,i < S.length → w.cell? ⟨g,i,none⟩ = some (i64 (S.getD i 0 : Nat))),fun q=>0 < S.length ∧ ∃ cap,v = .slice (some ⟨q,0,none⟩) S.length cap⟩
theorem zDa (base : Nat) (v : Value) (S : List Nat) : (tInts base v S).Ok base:=by
 refine ⟨fun w w' T h k hn=>?_,fun w i h hi=>?_⟩
 ·obtain ⟨a,cap,h1,h2,h3⟩:=h
  refine ⟨a,cap,h1,h2,fun h0=>?_⟩
  obtain ⟨g,h4,h5,h6⟩:=h3 h0
  refine ⟨g,h4,h5,fun i hi=>k.cell (h6 i hi) (hn g ⟨h0,cap,by rw [h1,h4]⟩)⟩
 ·obtain ⟨a,cap,h1,h2,h3⟩:=h
  obtain ⟨h0,c2,h4⟩:=hi
  obtain ⟨g,h5,h6,h7⟩:=h3 h0
  rw [h1,h5] at h4
  cases h4
  exact ⟨h6,World.block_lt_of_cell? w _ (h7 0 h0)⟩
theorem zBR {base : Nat} {v : Value} {S : List Nat} {w : World} (h : (tInts base v S).P w) : ∃ a cap,v = .slice a S.length cap ∧ S.length ≤ cap ∧ ∀ i,i < S.length → ∃ g,a = some ⟨g,0,none⟩ ∧ w.cell? ⟨g,i,none⟩ = some (i64 (S.getD i 0 : Nat)):=by
 obtain ⟨a,cap,h1,h2,h3⟩:=h
 refine ⟨a,cap,h1,h2,fun i hi=>?_⟩
 obtain ⟨g,h4,_,h6⟩:=h3 (by omega)
 exact ⟨g,h4,h6 i hi⟩
theorem zDB {base base' : Nat} {v : Value} {S : List Nat} {w : World} (h : (tInts base v S).P w) (hb : base' ≤ base) : (tInts base' v S).P w:=by
 obtain ⟨a,cap,h1,h2,h3⟩:=h
 refine ⟨a,cap,h1,h2,fun h0=>?_⟩
 obtain ⟨g,h4,h5,h6⟩:=h3 h0
 exact ⟨g,h4,Nat.le_trans hb h5,h6⟩
theorem zDt {base : Nat} {v : Value} {S : List Nat} {w : World} (h : (tInts base v S).P w) {q : Nat} (hq : (tInts base v S).F q) : base ≤ q:=((zDa base v S).lt w q h hq).1
theorem zEN (W : World) (a : Option Addr) (cap : Nat) (ws : List Int) (hW : IsWs W a ws) (hn : ws.length ≤ 1000000) :
  Calls Tryz.prog 39 #[.slice a ws.length cap] W fun r w' => ∃ v S,r = .returned v ∧ IsOrder ws S ∧ (tInts W.heap.size v S).P w' ∧ Below W.heap.size W w':=by
 have HW:=zIn hW
 clear hW
 have eg : ∀ args w,(callFunc 102 args).run Tryz.prog w = .ok (.enter 102 args) w:=enters_of Tryz.func102 (by kernel_rfl) rfl
 have Heg:=zIn eg
 clear eg
 go_enter Tryz.func39,Tryz.ntmps39
 go_wp2_with fail
 refine (zCD _ a cap ws HW.out hn).mono ?_
 rintro r w1 ⟨v,rfl,hown,hb1⟩
 have HO:=zIn hown
 have HB1:=zIn hb1
 obtain ⟨A,cp,rfl⟩:=zAK hown
 clear hown hb1
 go_wp2_with fail
 refine (zB0 _ _ ⟨_,_,_,rfl⟩).mono ?_
 rintro r w2 ⟨B,rfl,hB,hBc,hb2⟩
 have HO2 : Hid (w2.ownsRow W.heap.size 3 1 (.slice A (upto ws ws.length).length cp) (upto ws ws.length).length ((upto ws ws.length).map (fun i : Nat=>i64 (i : Int)))):=by
  have:=(Hold.later (W:=W) (l:=[]) (Hold.nil HB1.out) hb2)
  exact (zAx W.heap.size 3 1 _ _ _).keep w1 w2 (fun _=>False) HO.out (Keep.of_below hb2) (fun _ _ h=>h)
 have HB2:=zIn (zAE HB1.out hb2)
 rcases Nat.eq_zero_or_pos (upto ws ws.length).length with h0 | h0
 ·have hnil:=List.eq_nil_of_length_eq_zero h0
  rw [h0]
  have hS:=AnyF.slices_SortFunc_none (P:=Tryz.prog) (ρ:=sortL_ren) { sortL with } A cp (.func (.func 102) #[] #[.pointer (some ⟨B,0,none⟩)]) w2
  change Calls Tryz.prog 77 _ _ _ at hS
  have HS:=zIn hS
  clear hS hB hBc hb2
  go_wp2_with fail
  refine HS.out.mono ?_
  rintro r w3 ⟨rfl,rfl⟩
  go_wp2_with fail
  go_ret
  exact ⟨_,[],rfl,⟨List.Pairwise.nil,fun i=>by rw [← zAp,hnil]⟩,⟨A,cp,rfl,Nat.zero_le _,fun h=>absurd h (by decide)⟩,HB2.out⟩
 ·obtain ⟨g,cp',hv,hcp,hg⟩:=zCW HO2.out h0
  cases hv
  have hlen : 0 < ws.length:=by have:=zA9 ws ws.length; omega
  obtain ⟨b,off,rfl,hc⟩:=HW.out.has hlen
  have hgW : W.heap.size ≤ g:=(HO2.out.lt g rfl).1
  have hgw1 : g < w1.heap.size:=(HO.out.lt g rfl).2
  have hS:=Any.slices_SortFunc sortL (encI ws.length) (fun _=>rfl) (cfI ws ws.length) (swoI HW.out.fit hn hlen) 102 #[.pointer (some ⟨B,0,none⟩)] g 0 cp (upto ws ws.length).toArray w2 Heg.out
   (zDS w2 ws HW.out.fit B b off ws.length cap g _ hlen hn hBc (fun i hi=>(zAL HB2.out _ (by rw [hc i hi]; rfl)).trans (hc i hi)) (by omega) (by have:=World.block_lt_of_cell? W ⟨b,off + 0,none⟩ (hc 0 hlen); show b ≠ g; have h2 : b < W.heap.size:=this; omega))
   (zBe HO2.out (fun i hi=>(zAp.1 hi).1)) hg (by rw [List.size_toArray]; have:=zA9 ws ws.length; omega)
  change Calls Tryz.prog 77 _ _ _ at hS
  rw [List.size_toArray] at hS
  have HS:=zIn hS
  clear hS hB hBc hb2
  go_wp2_with fail
  refine HS.out.mono ?_
  rintro r w3 ⟨rfl,d',nq,os,hp,hs,rfl⟩
  rw [← List.size_toArray] at hp hs
  obtain ⟨ho,hl⟩:=zCN HW.out.fit hlen hn d' hp hs
  have hh:=holds_sortWorld (encI ws.length) w2 g 0 nq (upto ws ws.length).toArray d' os hg (zBe HO2.out (fun i hi=>(zAp.1 hi).1)) hp.1
  have hbs:=zBt (enc:=encI ws.length) (off:=0) (m:=nq) (dk:=d') (os:=os) HB2.out hgW
  have HI : Hid ((tInts W.heap.size (.slice (some ⟨g,0,none⟩) (upto ws ws.length).length cp) d'.toList).P (sortWorld (encI ws.length) w2 g 0 nq d' os)):=by
   refine ⟨_,cp,by rw [hl],by rw [hl]; exact hcp,fun _=>⟨g,rfl,hgW,fun i hi=>?_⟩⟩
   have hi2 : i < d'.size:=by simpa using hi
   have hq:=(hh i hi2).1
   rw [Nat.zero_add] at hq
   rw [hq]
   unfold encI
   rw [zDk,Nat.mod_eq_of_lt ((ho.mem _).1 (by rw [List.getD_eq_getElem?_getD,List.getElem?_eq_getElem hi]; exact List.getElem_mem _)).1]
  have HX:=zIn ho
  have HY:=zIn hbs
  clear ho hl hh hbs hp hs
  generalize sortWorld (encI ws.length) w2 g 0 nq d' os = w3 at HI HY ⊢
  go_wp2_with fail
  go_ret
  exact ⟨_,d'.toList,rfl,HX.out,HI.out,HY.out⟩
end
section
open Go.RowKit
section
variable {t s so d : Int} {N Q : Nat}
end
end
section
open Go.RowKit
section
variable {pl : Nat → Pl} {t n N put b i : Nat} {Y : Yd} {E : List Int}
end
section
variable {W w w' : World} {l l' : List Thing} {B : YB} {Y Y' : Yd} {J J' : Nat → Nat} {n N : Nat}
theorem YdL.callIdle (h : YdL W w l B N Y J n) (hn : n < 1000000) (k : Nat) (hq : Y.ts[k]? = some none) (take : Bool) {kd : Int} (hkd : kdI take = kd) (e x s : Int) (he : e = 0 ∨ e = 1) (x0 : 0 ≤ x) (x1 : x ≤ 18446744073709551615) :
  Calls Tryz.prog 34 #[pt B.yb,i64 k,callV kd e x s] w fun r w'=>r = .returned (i64 0) ∧ ∃ l' J',YdL W w' l' B N (Y.call k kd e x s (wkB B N k take e x s)) J' (n + 1) ∧ YGo Y (Y.call k kd e x s (wkB B N k take e x s)) l l' J J':=by
 have hkT : k < B.T:=by have:=(List.getElem?_eq_some_iff.1 hq).1; have:=h.ok.len; omega
 refine (h.call hn k hkT take hkd e x s he x0 x1).mono ?_
 rintro r w' ⟨l',J',Y',h1,h2,⟨_,_,a,ha⟩ | ⟨rfl,_,rfl⟩⟩
 ·rw [hq] at ha
  cases ha
 ·exact ⟨rfl,l',J',h1,h2⟩
end
end
section
open Go.RowKit
def FitN (C : List Int) : Prop:=∀ j,0 ≤ C.getD j 0 ∧ C.getD j 0 ≤ 18446744073709551615
theorem FitN.set {C : List Int} {q : Nat} {y : Int} (h : FitN C) (y0 : 0 ≤ y) (y1 : y ≤ 18446744073709551615) : FitN (C.set q y):=fun j=>by
 rw [List.getD_eq_getElem?_getD,List.getElem?_set]
 split
 ·split
  ·exact ⟨y0,y1⟩
  ·exact ⟨by decide,by decide⟩
 ·rw [← List.getD_eq_getElem?_getD]
  exact h j
theorem zGN {C0 : List Int} {hz j r : Nat} (h : FitN C0) (hj : j < 1000000) : FitN (tkC C0 hz j r):=by
 have h1:=zGA (h j).1 (h j).2
 unfold tkC
 split
 ·exact h
 ·split
  ·exact h.set (by omega) (by omega)
  ·exact (h.set (by omega) (by omega)).set h1.2.1 h1.2.2
theorem GA.fitN {k : Ge} {C C0 : List Int} {N hz i : Nat} {T : Int} (h : GA k C C0 N hz i T) (f : FitN C0) (hN : N < 1000000) : FitN C:=by
 rcases h.at' with ⟨_,_,hC,_⟩ | ⟨j,r,_,_,_,hj,_,_,hC⟩ | ⟨_,_,_,hC⟩ | ⟨j,_,_,hj,_,_,_,hC⟩
 ·rw [hC]; exact f
 ·rw [hC]; exact zGN f (by omega)
 ·rw [hC]; exact f
 ·rw [hC]; exact (zGN f (by omega)).set (by decide) (by decide)
theorem zEu {α : Type} {d : α} {f : α → α} : ∀ l : List α,(l ++ [d]).modify l.length f = l ++ [f d]
 | []=>rfl
 | a :: l=>congrArg (a :: ·) (zEu l)
def gDeed (w : Nat) (e s : Int) (Y : Yd) : Dd:=⟨w,1,e,0,s,Y.moves, -1,false,0,0,0⟩
def LoneG (B : YB) (N : Nat) (Y0 : Yd) (w : Nat) (e s : Int) (Y : Yd) : Prop :=
 ∃ (k : Ge) (i : Nat),GA k Y.C Y0.C N (2 * N + w) i ∧ k.e = e ∧ (∀ u,u < B.T → u ≠ w → Y.ts[u]? = some none) ∧
  ((k.ph = 0 ∧ Y.ts[w]? = some (some (.ge k,Y0.ds.length)) ∧ Y.ds = Y0.ds ++ [gDeed w e s Y0]) ∨
   (k.ph ≠ 0 ∧ Y.ts[w]? = some none ∧ ∃ m : Nat,Y.ds = Y0.ds ++ [(gDeed w e s Y0).over m (.ge k)]))
section
variable {B : YB} {N w j q : Nat} {Y0 Y Y1 : Yd} {e s : Int}
theorem LoneG.start (hc : YCf B N) (hT : (B.T : Int) = B.t) (hl : (Y0.C.length : Int) = 2 * N + 2 * B.t) (hi : ∀ k,k < B.T → Y0.ts[k]? = some none) (hw : w < B.T) (he : e = 0 ∨ e = 1) : LoneG B N Y0 w e s (Y0.call w 1 e 0 s (wkB B N w true e 0 s)):=by
 have hwl:=(List.getElem?_eq_some_iff.1 (hi w hw)).1
 refine ⟨ge0 B.t B.s B.so B.d w e s N,0,GA.start hc.lay hl (by omega) (by omega) (by omega) he,rfl,fun u hu hne=>?_,.inl ⟨rfl, ?_,rfl⟩⟩
 ·show (Y0.ts.set w _)[u]? = _
  rw [List.getElem?_set_ne (fun x=>hne x.symm)]
  exact hi u hu
 ·show (Y0.ts.set w _)[w]? = _
  rw [List.getElem?_set_self hwl]
  rfl
theorem LoneG.step (h : LoneG B N Y0 w e s Y) (f : FitN Y0.C) (hN : N < 1000000) {u i : Nat} {T : Wk} {z : Int} (hu : u < B.T) (hk : Y.ts[u]? = some (some (T,i))) (ha : T.ask Y.C z) : LoneG B N Y0 w e s (Y.step (plOf B N u) u T i z):=by
 obtain ⟨k,n,hg,hke,ho,h2⟩:=h
 by_cases hne : u = w
 ·subst hne
  rcases h2 with ⟨hp,hts,hds⟩ | ⟨hp,hts,_⟩
  ·rw [hts] at hk
   cases hk
   have hg':=hg.step hp ha (hg.fitN f hN)
   have hsame:=k.step_same N (2 * N + u) Y.C z
   have hl:=(List.getElem?_eq_some_iff.1 hts).1
   have e1 : (Wk.ge k).step (plOf B N u) Y.C Y.now z = .ge (k.step N (2 * N + u) Y.C z):=rfl
   have e2 : (Wk.ge k).cells (plOf B N u) Y.C Y.now = k.cells N (2 * N + u) Y.C:=rfl
   by_cases hp' : (k.step N (2 * N + u) Y.C z).ph = 0
   ·have hp2 : ((Wk.ge k).step (plOf B N u) Y.C Y.now z).ph = 0:=hp'
    refine ⟨_,_,by unfold Yd.step; rw [e2]; exact hg',hsame.e.trans hke,fun v hv hvn=>?_,.inl ⟨hp', ?_, ?_⟩⟩
    ·unfold Yd.step
     rw [if_pos hp2]
     show (Y.ts.set u _)[v]? = _
     rw [List.getElem?_set_ne (fun x=>hvn x.symm)]
     exact ho v hv hvn
    ·unfold Yd.step
     rw [if_pos hp2]
     show (Y.ts.set u _)[u]? = _
     rw [List.getElem?_set_self hl]
     rfl
    ·show (if ((Wk.ge k).step (plOf B N u) Y.C Y.now z).ph = 0 then Y.ds else Y.ds.modify Y0.ds.length (fun d=>d.over Y.moves ((Wk.ge k).step (plOf B N u) Y.C Y.now z))) = _
     rw [if_pos hp2]
     exact hds
   ·have hp2 : ¬ ((Wk.ge k).step (plOf B N u) Y.C Y.now z).ph = 0:=hp'
    refine ⟨_,_,by unfold Yd.step; rw [e2]; exact hg',hsame.e.trans hke,fun v hv hvn=>?_,.inr ⟨hp', ?_,Y.moves, ?_⟩⟩
    ·unfold Yd.step
     rw [if_neg hp2]
     show (Y.ts.set u _)[v]? = _
     rw [List.getElem?_set_ne (fun x=>hvn x.symm)]
     exact ho v hv hvn
    ·unfold Yd.step
     rw [if_neg hp2]
     show (Y.ts.set u _)[u]? = _
     rw [List.getElem?_set_self hl]
    ·show (if ((Wk.ge k).step (plOf B N u) Y.C Y.now z).ph = 0 then Y.ds else Y.ds.modify Y0.ds.length (fun d=>d.over Y.moves ((Wk.ge k).step (plOf B N u) Y.C Y.now z))) = _
     rw [if_neg hp2,hds,zEu]
     rfl
  ·rw [hts] at hk
   cases hk
 ·rw [ho u hu hne] at hk
  cases hk
theorem LoneG.tick (f : FitN Y0.C) (hN : N < 1000000) (hT : 0 < B.T) (h : LoneG B N Y0 w e s Y1) (ht : Tick B N Y1 j Y q) : LoneG B N Y0 w e s Y:=by
 induction ht with
 | zero=>exact h
 | skip _ _ ih=>exact ih
 | step _ T i z hk ha ih=>exact ih.step f hN (Nat.mod_lt _ hT) hk ha
theorem zF0 {C : List Int} {q : Nat} {x : Int} (h : N ≤ q) : (C.set q x).take N = C.take N:=by
 rw [List.take_set,List.set_eq_of_length_le]
 rw [List.length_take]
 omega
structure LoneOut (N : Nat) (Y0 : Yd) (w : Nat) (e s : Int) (Y : Yd) (d : Dd) : Prop where
 ds : Y.ds = Y0.ds ++ [d]
 who : d.who = w
 kd : d.kd = 1
 de : d.e = e
 fr : d.fr = Y0.moves
 val : ∀ i,i < N → Y.C.getD (N + i) 0 = Y0.C.getD (N + i) 0
 out : (d.ok = false ∧ IsEnd (Y0.C.take N) e (-1) ∧ Y.C.take N = Y0.C.take N) ∨
  (∃ i : Nat,i < N ∧ d.ok = true ∧ d.v = Y0.C.getD (N + i) 0 ∧ IsEnd (Y0.C.take N) e i ∧ Y.C.take N = (Y0.C.take N).set i (tkW (Y0.C.getD i 0)))
theorem LoneG.out (h : LoneG B N Y0 w e s Y) (hw : Y.ts[w]? = some none) : ∃ d,LoneOut N Y0 w e s Y d:=by
 obtain ⟨k,n,hg,hke,ho,h2⟩:=h
 rcases h2 with ⟨_,hts,_⟩ | ⟨hp,hts,m,hds⟩
 ·rw [hts] at hw
  cases hw
 refine ⟨_,hds, ?_, ?_, ?_, ?_, ?_, ?_⟩
 ·unfold Dd.over; split <;> rfl
 ·unfold Dd.over; split <;> rfl
 ·unfold Dd.over; split <;> rfl
 ·unfold Dd.over; split <;> rfl
 ·intro i hi
  rcases hg.cases with ⟨h1,_⟩ | ⟨_,h1,h2,hC⟩ | ⟨i',_,h1,hj,hE,hv,_,hC⟩
  ·exact absurd h1 hp
  ·rw [hC]
  ·rw [hC]
   unfold tkC
   rw [if_neg (by decide),if_neg (by decide),zAH _ (by omega),zAH _ (by omega),zAH _ (by omega)]
 ·rcases hg.cases with ⟨h1,_⟩ | ⟨_,h1,h2,hC⟩ | ⟨i',_,h1,hj,hE,hv,_,hC⟩
  ·exact absurd h1 hp
  ·refine .inl ⟨?_,hke ▸ h2,by rw [hC]⟩
   unfold Dd.over
   rw [if_neg (by show ¬ k.ph = 1; omega)]
   rfl
  ·refine .inr ⟨i',hj, ?_, ?_,hke ▸ hE, ?_⟩
   ·unfold Dd.over
    rw [if_pos (show (Wk.ge k).ph = 1 from h1)]
   ·unfold Dd.over
    rw [if_pos (show (Wk.ge k).ph = 1 from h1)]
    exact hv
   ·rw [hC]
    unfold tkC
    rw [if_neg (by decide),if_neg (by decide),zF0 (by omega),List.take_set,zF0 (by omega)]
end
end
section
open Go.RowKit
def tKey (d : Dd) : Int:=if d.kd = 0 then d.x else d.v
def tSign (d : Dd) : Int:=if d.kd = 0 then 1 else -1
def tAdd (d : Dd) (v : Int) : Int:=if d.ok = true ∧ v = tKey d then tSign d else 0
def tally (l : List Dd) (v : Int) : Int:=(l.map (fun d=>tAdd d v)).sum
def tHas (l : List Dd) (v : Int) : Bool:=l.any (fun d=>d.ok && decide (v = tKey d))
theorem zC2 {l : List Dd} {i : Nat} {d : Dd} (h : l[i]? = some d) (v : Int) : tally (l.take (i + 1)) v = tally (l.take i) v + tAdd d v:=by
 unfold tally
 rw [List.take_add_one,h,List.map_append,List.sum_append]
 simp
theorem zDz {l : List Dd} {i : Nat} {d : Dd} (h : l[i]? = some d) (v : Int) : tHas (l.take (i + 1)) v = (tHas (l.take i) v || (d.ok && decide (v = tKey d))):=by
 unfold tHas
 rw [List.take_add_one,h,List.any_append]
 simp
theorem zCF (v : Int) : ∀ l : List Dd, -(l.length : Int) ≤ tally l v ∧ tally l v ≤ l.length
 | []=>by simp [tally]
 | d :: l=>by
  have h:=zCF v l
  have e : tally (d :: l) v = tAdd d v + tally l v:=by simp [tally]
  have k : -1 ≤ tAdd d v ∧ tAdd d v ≤ 1:=by
   unfold tAdd tSign
   repeat' split
   all_goals omega
  rw [e,List.length_cons]
  omega
theorem zFA {l : List Dd} {v : Int} (h : tHas l v = false) : tally l v = 0:=by
 induction l with
 | nil=>rfl
 | cons d l ih =>
  have e : tally (d :: l) v = tAdd d v + tally l v:=by simp [tally]
  unfold tHas at h ih
  rw [List.any_cons,Bool.or_eq_false_iff] at h
  rw [e,ih h.2]
  unfold tAdd
  rw [if_neg]
  ·rfl
  ·rintro ⟨h1,h2⟩
   rw [h1,decide_eq_true h2] at h
   cases h.1
end
section
open Go.RowKit
def leftS (e : Int) (S : List Nat) (n : Nat) : List Nat:=if e = 0 then S.drop n else S.take (S.length - n)
theorem zCz (e : Int) (S : List Nat) : leftS e S 0 = S:=by
 unfold leftS
 split
 ·rfl
 ·rw [Nat.sub_zero,List.take_length]
theorem zFc {e : Int} {S : List Nat} {n : Nat} (hn : n < S.length) : lessS e (leftS e S n) = leftS e S (n + 1):=by
 unfold lessS leftS
 by_cases he : e = 0
 ·rw [if_pos he,if_pos he,if_pos he,List.tail_drop]
 ·rw [if_neg he,if_neg he,if_neg he,List.dropLast_eq_take,List.length_take,List.take_take]
  congr 1
  omega
def leftAt (e : Int) (S : List Nat) (n : Nat) : Nat:=if e = 0 then S.getD n 0 else S.getD (S.length - 1 - n) 0
theorem zCZ {e : Int} {S : List Nat} {n : Nat} : (leftS e S n).length = S.length - n:=by
 unfold leftS
 split
 ·exact List.length_drop
 ·rw [List.length_take]
  omega
theorem zF6 {e : Int} {S : List Nat} {n : Nat} (hn : n < S.length) : (e = 0 → (leftS e S n).getD 0 0 = leftAt e S n) ∧ (e ≠ 0 → (leftS e S n).getD ((leftS e S n).length - 1) 0 = leftAt e S n):=by
 refine ⟨fun he=>?_,fun he=>?_⟩
 ·unfold leftS leftAt
  rw [if_pos he,if_pos he,List.getD_eq_getElem?_getD,List.getElem?_drop,Nat.add_zero,List.getD_eq_getElem?_getD]
 ·rw [zCZ]
  unfold leftS leftAt
  rw [if_neg he,if_neg he,List.getD_eq_getElem?_getD,List.getElem?_take,if_pos (by omega),List.getD_eq_getElem?_getD,show S.length - n - 1 = S.length - 1 - n by omega]
section
variable {B : YB} {N w n : Nat} {Y0 Y : Yd} {e s : Int} {d : Dd} {S : List Nat}
theorem LoneOut.yes (h : LoneOut N Y0 w e s Y d) (hf : FitN Y0.C) (hS : IsOrder (Y0.C.take N) (leftS e S n)) (hn : n < S.length) : d.ok = true ∧ leftAt e S n < N ∧ d.v = Y0.C.getD (N + leftAt e S n) 0 ∧ IsOrder (Y.C.take N) (leftS e S (n + 1)):=by
 have hl:=zF6 (e:=e) hn
 rcases h.out with ⟨_,hE,_⟩ | ⟨i,hi,ho,hv,hE,hC⟩
 ·rcases zBF hS hE with ⟨h1,_⟩ | ⟨q,h1,_⟩
  ·have:=congrArg List.length h1
   rw [zCZ] at this
   simp at this
   omega
  ·omega
 ·have hi2 : i = leftAt e S n:=by
   rcases zBF hS hE with ⟨_,h1⟩ | ⟨q,h1,_,_,_,h5,h6⟩
   ·omega
   ·by_cases he : e = 0
    ·have:=h5 he
     rw [hl.1 he] at this
     omega
    ·have:=h6 he
     rw [hl.2 he] at this
     omega
  subst hi2
  refine ⟨ho,hi,hv, ?_⟩
  have:=(zFh (y:=tkW (Y0.C.getD (leftAt e S n) 0)) hS hE (zGA (hf _).1 (hf _).2).1).1
  rw [zFc hn] at this
  rw [hC]
  exact this
theorem LoneOut.no (h : LoneOut N Y0 w e s Y d) (hS : IsOrder (Y0.C.take N) (leftS e S n)) (hn : n = S.length) : d.ok = false:=by
 rcases h.out with ⟨h1,_⟩ | ⟨i,hi,ho,hv,hE,hC⟩
 ·exact h1
 ·rcases zBF hS hE with ⟨_,h1⟩ | ⟨q,h1,_,_,h4,_⟩
  ·omega
  ·rw [zCZ] at h4
   omega
end
theorem zCX {p : Dd → Bool} : ∀ {l : List Dd},(∃ (i : Nat) (d : Dd),l[i]? = some d ∧ p d = true) → (∀ (i i' : Nat) (d d' : Dd),l[i]? = some d → l[i']? = some d' → p d = true → p d' = true → i = i') → l.countP p = 1
 | [],⟨i,d,h,_⟩,_=>by simp at h
 | a :: l,⟨i,d,h,hp⟩,hu=>by
  by_cases ha : p a = true
  ·have h0 : l.countP p = 0:=List.countP_eq_zero.2 (fun x hx hpx=>by
    obtain ⟨q,hq⟩:=List.mem_iff_getElem?.1 hx
    have:=hu 0 (q + 1) a x rfl (by rw [List.getElem?_cons_succ]; exact hq) ha hpx
    omega)
   rw [List.countP_cons_of_pos ha,h0]
  ·rw [List.countP_cons_of_neg ha]
   refine zCX ?_ (fun i i' d d' h1 h2 p1 p2=>by
    have:=hu (i + 1) (i' + 1) d d' (by rw [List.getElem?_cons_succ]; exact h1) (by rw [List.getElem?_cons_succ]; exact h2) p1 p2
    omega)
   cases i with
   | zero =>
    cases h
    exact absurd hp ha
   | succ i=>exact ⟨i,d,by rw [List.getElem?_cons_succ] at h; exact h,hp⟩
def putsV (v : Int) (d : Dd) : Bool:=d.ok && decide (d.kd = 0) && decide (d.x = v)
def hadV (v : Int) (d : Dd) : Bool:=d.ok && !decide (d.kd = 0) && decide (d.v = v)
theorem zCR (v : Int) : ∀ l : List Dd,tally l v = (l.countP (putsV v) : Int) - (l.countP (hadV v) : Int)
 | []=>rfl
 | d :: l=>by
  have ih:=zCR v l
  have e : tally (d :: l) v = tAdd d v + tally l v:=by simp [tally]
  rw [e,ih,List.countP_cons,List.countP_cons]
  have k : tAdd d v = (if putsV v d = true then 1 else 0) - (if hadV v d = true then 1 else 0):=by
   unfold tAdd putsV hadV tKey tSign
   cases ho : d.ok
   ·simp
   ·by_cases hk : d.kd = 0
    ·simp [hk,eq_comm]
    ·simp [hk]
     by_cases hv : v = d.v
     ·simp [hv]
     ·rw [if_neg hv,if_neg (fun x=>hv x.symm)]
      rfl
  rw [k]
  split <;> split <;> simp <;> omega
theorem zDD {B : YB} {N m : Nat} {Y : Nat → Yd} (h : YTr B N Y m) (hx : DOwn (Y m).ds) (hk : ∀ d ∈ (Y m).ds,d.kd = 0 ∨ d.kd = 1) (hrest : ∀ (g : Nat) (d : Dd),(Y m).ds[g]? = some d → 0 ≤ d.till) {g : Nat} {dg : Dd} (hg : (Y m).ds[g]? = some dg) (gk : dg.kd = 1) (go : dg.ok = false) (hb : ∀ d ∈ (Y m).ds,d.kd = 0 → dBef d dg) (v : Int) : tally (Y m).ds v = 0:=by
 rw [zCR]
 have one : ∀ (i i' : Nat) (d d' : Dd),(Y m).ds[i]? = some d → (Y m).ds[i']? = some d' → hadV v d = true → hadV v d' = true → i = i':=fun i i' d d' h1 h2 p1 p2=>by
  unfold hadV at p1 p2
  simp only [Bool.and_eq_true,Bool.not_eq_true',decide_eq_false_iff_not,decide_eq_true_eq] at p1 p2
  have k1:=hk d (List.mem_of_getElem? h1)
  have k2:=hk d' (List.mem_of_getElem? h2)
  exact (zIA h hx h1 h2 (v:=v) ⟨by omega,p1.1.1,p1.2⟩ ⟨by omega,p2.1.1,p2.2⟩).symm
 by_cases hp : ∃ (i : Nat) (d : Dd),(Y m).ds[i]? = some d ∧ putsV v d = true
 ·have c1:=zCX hp (fun i i' d d' h1 h2 p1 p2=>by
   unfold putsV at p1 p2
   simp only [Bool.and_eq_true,decide_eq_true_eq] at p1 p2
   exact hx i i' d d' h1 h2 p1.1.2 p2.1.2 (by rw [p1.2,p2.2]))
  obtain ⟨i,d,h1,p1⟩:=hp
  unfold putsV at p1
  simp only [Bool.and_eq_true,decide_eq_true_eq] at p1
  obtain ⟨k,dk,q1,q2,q3,q4,_⟩:=zCY h (fun g d hd _=>hrest g d hd) hg gk go h1 p1.1.2 p1.1.1 (hb d (List.mem_of_getElem? h1) p1.1.2)
  have c2:=zCX ⟨k,dk,q1,by
   unfold hadV
   rw [q3,decide_eq_false (by omega),decide_eq_true (by rw [q4,p1.2])]
   rfl⟩ one
  rw [c1,c2]
  rfl
 ·have c1 : (Y m).ds.countP (putsV v) = 0:=List.countP_eq_zero.2 (fun d hd hpd=>by
   obtain ⟨i,hi⟩:=List.mem_iff_getElem?.1 hd
   exact hp ⟨i,d,hi,hpd⟩)
  have c2 : (Y m).ds.countP (hadV v) = 0:=List.countP_eq_zero.2 (fun d hd hpd=>by
   obtain ⟨i,hi⟩:=List.mem_iff_getElem?.1 hd
   unfold hadV at hpd
   simp only [Bool.and_eq_true,Bool.not_eq_true',decide_eq_false_iff_not,decide_eq_true_eq] at hpd
   have k1:=hk d hd
   obtain ⟨q,dq,q1,q2,q3,q4,_⟩:=zBn h hi (by omega) hpd.1.1 (hrest i d hi)
   refine hp ⟨q,dq,q1, ?_⟩
   unfold putsV
   rw [q3,decide_eq_true q2,decide_eq_true (by rw [← q4,hpd.2])]
   rfl)
  rw [c1,c2]
  rfl
end
section
open Go.RowKit
theorem zH6 {B : YB} {N m : Nat} {Y : Nat → Yd} (h : YTr B N Y m) : ∀ b,b ≤ m → ∀ (i : Nat) (d : Dd),(Y b).ds[i]? = some d → (d.kd = 1 ∧ d.ok = true) ∨ d.v = 0
 | 0,_=>by
  rw [h.zero]
  intro i d hd
  simp at hd
 | b + 1,hb=>by
  have ih:=zH6 h b (by omega)
  have hA:=h.all b (by omega)
  have hhow:=h.how b hb
  generalize Y (b + 1) = Z at hhow ⊢
  cases hhow with
  | rest=>exact ih
  | pass n hn=>exact ih
  | call w take kd e x s hw he hk =>
   intro i d hd
   rcases ysnoc hd with ⟨_,rfl⟩ | ⟨_,hd⟩
   ·exact .inr rfl
   ·exact ih i d hd
  | step w T i z hw ha =>
   obtain ⟨_,_,_,_,d0,k5,_,_,k8,k9,_⟩:=hA.ok.task w T i hw
   have hkd:=hA.cok.kind w T i d0 hw k5
   intro i' d hd
   have hd' : (if (T.step (plOf B N w) (Y b).C (Y b).now z).ph = 0 then (Y b).ds else (Y b).ds.modify i (fun d=>d.over (Y b).moves (T.step (plOf B N w) (Y b).C (Y b).now z)))[i']? = some d:=hd
   split at hd'
   ·exact ih i' d hd'
   ·rcases ymod hd' with ⟨rfl,d1,hd1,rfl⟩ | ⟨_,hd1⟩
    ·rw [k5] at hd1
     cases hd1
     cases T with
     | pu k =>
      right
      unfold Dd.over
      split
      ·rfl
      ·exact k9
     | ge k =>
      unfold Dd.over
      split
      ·exact .inl ⟨hkd,rfl⟩
      ·exact .inr k9
    ·exact ih i' d hd1
theorem v_fit {B : YB} {N m : Nat} {Y : Nat → Yd} (h : YTr B N Y m) {d : Dd} (hd : d ∈ (Y m).ds) : 0 ≤ d.v ∧ d.v ≤ 18446744073709551615:=by
 obtain ⟨i,hi⟩:=List.mem_iff_getElem?.1 hd
 rcases zH6 h m (Nat.le_refl _) i d hi with ⟨h1,h2⟩ | h1
 ·have ht:=zBX h hi h2
  obtain ⟨w,f,b',_,_,hb,_,hg⟩:=((h.gets m (Nat.le_refl _)).done i d hi h1 (by omega)).ok h2
  obtain ⟨c,u,s,j,h1,h2,h3,h4,h5,h6,h7,h8,h9,_⟩:=hg
  rw [h9]
  exact h.fit u (by omega) _
 ·rw [h1]
  exact ⟨Int.le_refl _,by decide⟩
structure AskV (ds : List Dd) : Prop where
 ok : AsksOk (ds.map Dd.ask)
 val : ∀ a ∈ ds.map Dd.ask,0 ≤ a.2.2.2.1 ∧ a.2.2.2.1 ≤ 18446744073709551615
theorem AskV.same {ds ds' : List Dd} (h : AskV ds) (e : ds'.map Dd.ask = ds.map Dd.ask) : AskV ds':=⟨by rw [e]; exact h.ok,by rw [e]; exact h.val⟩
theorem AskV.get {ds : List Dd} {d : Dd} (h : AskV ds) (hk : d.kd = 1) (he : d.e = 0 ∨ d.e = 1) (hx : d.x = 0) : AskV (ds ++ [d]):=by
 have e : (ds ++ [d]).map Dd.ask = ds.map Dd.ask ++ [d.ask]:=by rw [List.map_append]; rfl
 refine ⟨?_, ?_⟩
 ·rw [e]
  refine ⟨fun a ha=>?_, ?_⟩
  ·rcases List.mem_append.1 ha with ha | ha
   ·exact h.ok.kind a ha
   ·rw [List.mem_singleton.1 ha]
    exact ⟨.inr hk,he⟩
  ·rw [List.pairwise_append]
   refine ⟨h.ok.own,List.pairwise_singleton _ _,fun a ha b hb k0 k1=>?_⟩
   rw [List.mem_singleton.1 hb] at k1
   have k2 : d.kd = 0:=k1
   omega
 ·rw [e]
  intro a ha
  rcases List.mem_append.1 ha with ha | ha
  ·exact h.val a ha
  ·rw [List.mem_singleton.1 ha]
   show 0 ≤ d.x ∧ d.x ≤ _
   rw [hx]
   exact ⟨Int.le_refl _,by decide⟩
theorem AskV.fitV {B : YB} {N m : Nat} {Y : Nat → Yd} (h : YTr B N Y m) (k : AskV (Y m).ds) : ∀ d ∈ (Y m).ds,d.FitV:=fun d hd=>by
 have h1:=k.val d.ask (List.mem_map_of_mem hd)
 have h2:=v_fit h hd
 exact ⟨h1.1,h1.2,h2.1,h2.2⟩
theorem zDK {pl : Nat → Pl} {t n : Nat} {Y : Yd} (h : YOk pl t n Y) (hi : ∀ k,k < t → Y.ts[k]? = some none) {d dg : Dd} (hd : d ∈ Y.ds) (hf : dg.fr = Y.moves) : dBef d dg:=by
 obtain ⟨i,hi2⟩:=List.mem_iff_getElem?.1 hd
 have h0:=zCb h hi hi2
 have h1:=((h.deed i d hi2).2.2.2 (by omega)).2
 exact ⟨h0,by omega⟩
end
section
open Go.RowKit
open Go.RowKit Go.Maps
structure MapTy (P : Program) (t kt et : TypeId) (kq : IntKind) : Prop where
 ht : P.underlying t = some (.map kt et)
 hk : P.underlying kt = some (.int kq)
 he : P.underlying et = some (.int .i64)
 hz : ∀ w,(zeroValue et).run P w = .ok (.int .i64 0) w
def IMap (P : Program) (kt et : TypeId) (kq : IntKind) (w : World) (b n : Nat) (F : Int → Int) (M : Int → Bool) : Prop :=
 ∃ D : DataW Unit,w.ownsMap P kt (plainElem P et) b n D ∧ ∀ k,(Lit.int kq k).wf = true → D.atKey (.int kq k) (.lit (.int .i64 0)) = .lit (.int .i64 (F k)) ∧ Maps.has D (.int kq k) = M k
section
variable {P : Program} {t kt et : TypeId} {kq : IntKind} {w w' : World} {b n : Nat} {F : Int → Int} {M : Int → Bool}
theorem zFp {H : Type} {R : Value → Option (DataW H × List MemPlace)} {D : DataW H} {B : Nat} (h : w.ownsMap P kt R b n D) (e : Below B w w') (hb : b < B) : w'.ownsMap P kt R b n D:=by
 obtain ⟨es,clock,h1,h2⟩:=h
 exact ⟨es,clock,(e.block b hb).trans h1,h2⟩
theorem IMap.later (h : IMap P kt et kq w b n F M) (e : Below w.heap.size w w') : IMap P kt et kq w' b n F M:=by
 obtain ⟨D,h,k⟩:=h
 exact ⟨D,zFp h e h.lt,k⟩
theorem IMap.mono (h : IMap P kt et kq w b n F M) {n' : Nat} (hn : n ≤ n') : IMap P kt et kq w b n' F M:=by
 obtain ⟨D,h,k⟩:=h
 exact ⟨D,h.mono hn,k⟩
theorem IMap.as {F' : Int → Int} {M' : Int → Bool} (h : IMap P kt et kq w b n F M) (hF : ∀ k,F k = F' k) (hM : ∀ k,M k = M' k) : IMap P kt et kq w b n F' M':=by
 obtain ⟨D,h,k⟩:=h
 exact ⟨D,h,fun x hx=>by rw [← hF x, ← hM x]; exact k x hx⟩
theorem IMap.made (w : World) (P : Program) (kt et : TypeId) (kq : IntKind) : IMap P kt et kq (w.alloc (.map #[] 0)) w.heap.size 0 (fun _=>0) (fun _=>false) :=
 ⟨.map [],World.ownsMap_made _ _ _ _,fun _ _=>⟨rfl,rfl⟩⟩
def putF (F : Int → Int) (k c : Int) : Int → Int:=fun z=>if z = k then c else F z
def putM (M : Int → Bool) (k : Int) : Int → Bool:=fun z=>decide (z = k) || M z
theorem IMap.store (ty : MapTy P t kt et kq) (h : IMap P kt et kq w b n F M) (hn : n < maxLen) {k c : Int} (hk : (Lit.int kq k).wf = true) (hc : (Lit.int .i64 c).wf = true) :
  ∃ w',(Instr.mapUpdate t (.map (some b)) (.int kq k) (.int .i64 c)).run P w = .ok () w' ∧ IMap P kt et kq w' b (n + 1) (putF F k c) (putM M k) ∧ w.grownBy w' (some b):=by
 obtain ⟨D,h,hD⟩:=h
 have K:=int_keyed ty.hk
 have key:=keyOf_int_mk ty.hk hk
 obtain ⟨w',hr,h1,h2⟩:=h.update K ty.ht hn key (plainElem_int ty.he hc)
 refine ⟨w',hr,⟨_,h1,fun z hz=>?_⟩,h2⟩
 by_cases e : z = k
 ·subst e
  rw [atKey_put_same h.isMap (K.key key),has_put_same h.isMap (K.key key)]
  exact ⟨by rw [putF,if_pos rfl],by rw [putM]; simp⟩
 ·have hne : Lit.int kq z ≠ Lit.int kq k:=fun hh=>e (by cases hh; rfl)
  rw [atKey_put_other hne,has_put_other hne]
  exact ⟨by rw [putF,if_neg e]; exact (hD z hz).1,by rw [putM,decide_eq_false e,Bool.false_or]; exact (hD z hz).2⟩
variable {ops : Array Oper} {rest : List Oper} {o : Oper} {a : Act} {Q : Exit → Act → World → Prop}
theorem zB5 (hg : o.guard = none) (m x : Operand) (t : TypeId) (hop : o.op = Op.lookup t m x false) (ty : MapTy P t kt et kq) (hm : a.eval m = .map (some b)) (h : IMap P kt et kq w b n F M) (k c : Int) (hx : a.eval x = .int kq k) (hk : (Lit.int kq k).wf = true) (hc : F k = c)
  (hK : wpList P ops Q rest (a.put o.dst (.int .i64 c)) w) : wpList P ops Q (o :: rest) a w:=by
 obtain ⟨D,h,hD⟩:=h
 refine wpList_lookup_own_int w hg m x t hop kt et .i64 (int_keyed ty.hk) ty.ht ty.he (ty.hz w) b n D hm h _ _ hx (keyOf_int_mk ty.hk hk) fun c' hc' _=>?_
 rw [(hD k hk).1,hc] at hc'
 cases hc'
 exact hK
theorem zGD {K : Act → World → Prop} (m x v : Operand) (t : TypeId) (hop : o.op = Op.mapUpdate t m x v) (ty : MapTy P t kt et kq) (hm : a.eval m = .map (some b)) (h : IMap P kt et kq w b n F M) (hn : n < maxLen) (k c : Int) (hx : a.eval x = .int kq k) (hv : a.eval v = .int .i64 c)
  (hk : (Lit.int kq k).wf = true) (hc : (Lit.int .i64 c).wf = true) (hK : ∀ w',IMap P kt et kq w' b (n + 1) (putF F k c) (putM M k) → w.grownBy w' (some b) → K (a.put o.dst undef) w') : Oper.wp P o a w K Q:=by
 obtain ⟨w',hr,h1,h2⟩:=h.store ty hn hk hc
 unfold Oper.wp
 simp [execOp,hop,hm,hx,hv,hr,Result.andThen]
 exact hK w' h1 h2
theorem zCI (hg : o.guard = none) (m x v : Operand) (t : TypeId) (hop : o.op = Op.mapUpdate t m x v) (ty : MapTy P t kt et kq) (hm : a.eval m = .map (some b)) (h : IMap P kt et kq w b n F M) (hn : n < maxLen) (k c : Int) (hx : a.eval x = .int kq k) (hv : a.eval v = .int .i64 c)
  (hk : (Lit.int kq k).wf = true) (hc : (Lit.int .i64 c).wf = true) (hK : ∀ w',IMap P kt et kq w' b (n + 1) (putF F k c) (putM M k) → w.grownBy w' (some b) → wpList P ops Q rest (a.put o.dst undef) w') : wpList P ops Q (o :: rest) a w :=
 wpList_plain hg fun K' hK'=>zGD m x v t hop ty hm h hn k c hx hv hk hc fun w' h1 h2=>hK' _ _ (hK w' h1 h2)
end
end
section
open Go.RowKit
open Go.RowKit Go.Maps
theorem zDF : MapTy Tryz.prog 88 30 3 .u64:=⟨Tryz.underlying88,Tryz.underlying30,Tryz.underlying3,Tryz.zeroValue3⟩
theorem zGV {a : Int} (h0 : -9223372036854775808 ≤ a) (h1 : a ≤ 9223372036854775807) : (Lit.int .i64 a).wf = true:=WalkArith.wf_i64 (by omega)
theorem Dd.FitV.key {d : Dd} (h : d.FitV) : (Lit.int .u64 (tKey d)).wf = true:=by
 have h0:=h.x0
 have h1:=h.x1
 have h2:=h.v0
 have h3:=h.v1
 unfold tKey
 split
 ·exact WalkArith.wf_u64 (by omega)
 ·exact WalkArith.wf_u64 (by omega)
theorem zGe {l : List Dd} {i : Nat} {d : Dd} (hd : l[i]? = some d) (hok : d.ok = true) {x : Int} (hx : tally (l.take i) (tKey d) = x) (v : Int) :
  putF (tally (l.take i)) (tKey d) (x + tSign d) v = tally (l.take (i + 1)) v ∧ putM (tHas (l.take i)) (tKey d) v = tHas (l.take (i + 1)) v:=by
 rw [zC2 hd,zDz hd,hok]
 unfold putF putM tAdd
 subst hx
 by_cases e : v = tKey d
 ·subst e
  rw [if_pos rfl,if_pos ⟨hok,rfl⟩,decide_eq_true rfl]
  exact ⟨rfl,by rw [Bool.true_and,Bool.or_true,Bool.true_or]⟩
 ·rw [if_neg e,if_neg (fun h=>e h.2),decide_eq_false e]
  exact ⟨by omega,by rw [Bool.false_or,Bool.and_false,Bool.or_false]⟩
theorem zCy {l : List Dd} {i : Nat} {d : Dd} (hd : l[i]? = some d) (hok : d.ok = false) (v : Int) : tally (l.take i) v = tally (l.take (i + 1)) v ∧ tHas (l.take i) v = tHas (l.take (i + 1)) v:=by
 rw [zC2 hd,zDz hd,hok]
 unfold tAdd
 rw [if_neg (fun h=>by rw [hok] at h; exact Bool.false_ne_true h.1)]
 exact ⟨by omega,by rw [Bool.false_and,Bool.or_false]⟩
def Sweeps (F : Int → Int) (M : Int → Bool) (D : DataW Unit) (left : Lit → Bool) : Prop :=
 ∀ k,(Lit.int .u64 k).wf = true → D.atKey (.int .u64 k) (.lit (.int .i64 0)) = .lit (.int .i64 (F k)) ∧ Maps.has D (.int .u64 k) = (M k && (decide (F k ≠ 0) || left (.int .u64 k)))
theorem Sweeps.stay {F : Int → Int} {M : Int → Bool} {D : DataW Unit} {left : Lit → Bool} (h : Sweeps F M D left) {x : Int} (hx : F x ≠ 0) : Sweeps F M D (fun z=>left z && !z.sameKey (.int .u64 x)):=fun k hk=>by
 refine ⟨(h k hk).1,(h k hk).2.trans ?_⟩
 show _ = (M k && (decide (F k ≠ 0) || (left (.int .u64 k) && !(Lit.int .u64 k).sameKey (.int .u64 x))))
 by_cases e : k = x
 ·subst e
  rw [decide_eq_true hx,Bool.true_or,Bool.true_or]
 ·rw [show (Lit.int .u64 k).sameKey (.int .u64 x) = false from sameKey_ne (fun hh=>e (by cases hh; rfl)),Bool.not_false,Bool.and_true]
theorem Sweeps.drop {F : Int → Int} {M : Int → Bool} {D : DataW Unit} {left : Lit → Bool} (h : Sweeps F M D left) {x : Int} (hx : F x = 0) : Sweeps F M (D.del (.int .u64 x)) (fun z=>left z && !z.sameKey (.int .u64 x)):=fun k hk=>by
 show _ ∧ _ = (M k && (decide (F k ≠ 0) || (left (.int .u64 k) && !(Lit.int .u64 k).sameKey (.int .u64 x))))
 by_cases e : k = x
 ·subst e
  have hs : (Lit.int .u64 k).sameKey (.int .u64 k) = true:=by simp [Lit.sameKey]
  rw [atKey_del_same,has_del_same,hs,Bool.not_true,Bool.and_false,Bool.or_false,hx,decide_eq_false (fun hh=>hh rfl),Bool.and_false]
  exact ⟨rfl,rfl⟩
 ·have hne : Lit.int .u64 k ≠ Lit.int .u64 x:=fun hh=>e (by cases hh; rfl)
  rw [atKey_del_other hne,has_del_other hne,show (Lit.int .u64 k).sameKey (.int .u64 x) = false from sameKey_ne hne,Bool.not_false,Bool.and_true]
  exact h k hk
theorem zD7 (w : World) (a0 : Option Addr) (len cap tb off : Nat) (l : List Dd) (h : IsDds w a0 len cap tb off l) (hv : ∀ d ∈ l,d.FitV) (hn : len ≤ 100000) :
  Calls Tryz.prog 41 #[.slice a0 len cap] w fun e w' => ∃ b n,e = .returned (.map (some b)) ∧ IMap Tryz.prog 30 3 .u64 w' b n (tally l) (fun v=>decide (tally l v ≠ 0)) ∧ Below w.heap.size w w':=by
 have HL:=zIn h
 have HV:=zIn hv
 clear h hv
 have hmm := @run_makeMap Tryz.prog
 go_enter Tryz.func41,Tryz.ntmps41
 go_wp2_with fail
 have HM0 : Hid (IMap Tryz.prog 30 3 .u64 (w.alloc (.map #[] 0)) w.heap.size 0 (tally (l.take 0)) (tHas (l.take 0))):=(IMap.made w _ _ _ _).as (fun k=>rfl) (fun k=>rfl)
 have HB0 : Hid (Below w.heap.size w (w.alloc (.map #[] 0))):=zAA (Below.refl _ _) _
 go_loopw [11] (fun iw wr => ∃ i : Nat,i ≤ len ∧ iw = .int .i64 i ∧ Hid (Below w.heap.size w wr) ∧ Hid (IMap Tryz.prog 30 3 .u64 wr w.heap.size i (tally (l.take i)) (tHas (l.take i)))) (fun iw _=>len - (RowKit.intOf iw).toNat)
 case atStart=>exact ⟨0,Nat.zero_le _,rfl,HB0,HM0⟩
 case round =>
  clear HM0 HB0
  obtain ⟨i,hi,rfl,HB,HM⟩:=hrel
  rcases Nat.lt_or_ge i len with hil | hil
  ·have hil' : (i : Int) < (len : Int):=by omega
   obtain ⟨d,hd⟩ : ∃ d,l[i]? = some d:=⟨_,List.getElem?_eq_getElem (by rw [HL.out.1]; exact hil)⟩
   obtain ⟨rfl,htb⟩:=HL.out.2.2.1 (by omega)
   obtain ⟨hA,hF⟩:=(HL.out.later HB.out (fun _=>htb)).2.2.2 i d hd
   have hcap:=HL.out.2.1
   have b0:=zCF (tKey d) (l.take i)
   obtain ⟨x,hx⟩ : ∃ x,tally (l.take i) (tKey d) = x:=⟨_,rfl⟩
   rw [hx,List.length_take] at b0
   have b1 : -100000 ≤ x ∧ x ≤ 100000:=by omega
   clear b0
   obtain ⟨c0,c1,c2,c3,c4,c5,c6,c7,c8,c9,c10⟩:=hA
   have HX:=zIn hx
   have HD:=zIn hd
   have HK:=zIn (HV.out d (List.mem_of_getElem? hd)).key
   have HBN:=zIn (zAA HB.out (d.obj 77))
   have HMN:=zIn (HM.out.later (zAA (Below.refl _ _) (d.obj 77)))
   clear hx hd hF
   cases hok : d.ok
   case false =>
    have HOK:=zIn hok
    rw [hok] at c7
    have HMM:=zIn (HMN.out.as (fun v=>(zCy HD.out hok v).1) (fun v=>(zCy HD.out hok v).2))
    clear hok
    go_wp2_with fail
    go_roundw
    case rel=>exact ⟨i + 1,by omega,by go_num,by rw [← HOK.out]; exact HBN,by rw [← HOK.out]; exact zIn (HMM.out.mono (by omega))⟩
    case measure=>first | omega | (simp [RowKit.intOf]; done) | (simp [RowKit.intOf]; omega)
   case true =>
    have HOK:=zIn hok
    rw [hok] at c7
    have HP:=zIn (fun v=>zGe HD.out hok HX.out v)
    clear hok
    by_cases hk : d.kd = 0
    case pos =>
     have q1 : (d.kd == 0) = true:=beq_iff_eq.2 hk
     have e1 : tKey d = d.x:=if_pos hk
     have e2 : tSign d = 1:=if_pos hk
     rw [e1] at HX HK
     rw [e1,e2] at HP
     clear e1 e2 hk
     go_wp2_with (first
      | (at_lookup; refine zB5 rfl _ _ _ rfl zDF rfl (HM.out.later (zAA (Below.refl _ _) _)) _ x rfl HK.out HX.out ?_)
      | (at_mapUpdate; refine zCI rfl _ _ _ _ rfl zDF rfl (HM.out.later (zAA (Below.refl _ _) _)) (by unfold maxLen; omega) _ (x + 1) rfl rfl HK.out (zGV (by omega) (by omega)) ?_; intro w2 hM2 hG2)
      | fail)
     have hB2 : Below w.heap.size w w2:=Below.grown (zAA HB.out _) hG2 (by simp; have:=HB.out.size; omega) (fun k hk=>by cases hk; exact Nat.le_refl _)
     have hM3:=hM2.as (fun v=>(HP.out v).1) (fun v=>(HP.out v).2)
     go_roundw
     case rel=>exact ⟨i + 1,by omega,by go_num,hB2,hM3⟩
     case measure=>first | omega | (simp [RowKit.intOf]; done) | (simp [RowKit.intOf]; omega)
    case neg =>
     have q1 : (d.kd == 0) = false:=beq_false_of_ne hk
     have e1 : tKey d = d.v:=if_neg hk
     have e2 : tSign d = -1:=if_neg hk
     rw [e1] at HX HK
     rw [e1,e2] at HP
     clear e1 e2 hk
     go_wp2_with (first
      | (at_lookup; refine zB5 rfl _ _ _ rfl zDF rfl (HM.out.later (zAA (Below.refl _ _) _)) _ x rfl HK.out HX.out ?_)
      | (at_mapUpdate; refine zCI rfl _ _ _ _ rfl zDF rfl (HM.out.later (zAA (Below.refl _ _) _)) (by unfold maxLen; omega) _ (x - 1) rfl rfl HK.out (zGV (by omega) (by omega)) ?_; intro w2 hM2 hG2)
      | fail)
     have hB2 : Below w.heap.size w w2:=Below.grown (zAA HB.out _) hG2 (by simp; have:=HB.out.size; omega) (fun k hk=>by cases hk; exact Nat.le_refl _)
     have hM3:=hM2.as (fun v=>(HP.out v).1) (fun v=>(HP.out v).2)
     go_roundw
     case rel=>exact ⟨i + 1,by omega,by go_num,hB2,hM3⟩
     case measure=>first | omega | (simp [RowKit.intOf]; done) | (simp [RowKit.intOf]; omega)
  ·obtain rfl : i = len:=by omega
   have hnl : ¬ (i : Int) < (i : Int):=by omega
   have hM:=HM.out
   rw [List.take_of_length_le (by rw [HL.out.1]; exact Nat.le_refl _)] at hM
   obtain ⟨D0,hown,hD⟩:=hM
   have HO:=zIn hown
   have HS0 : Hid (Sweeps (tally l) (tHas l) D0 (Maps.has D0)):=zIn (fun k hk=>⟨(hD k hk).1,by rw [(hD k hk).2]; cases tHas l k <;> simp⟩)
   clear HM hown hD
   go_wp2_with (first
    | (at_range; refine wpList_range_own _ rfl _ 88 rfl 30 3 (int_keyed Tryz.underlying30) Tryz.underlying88 _ w.heap.size i D0 rfl HO.out ?_; intro w0 hrg0 hg0 hs0)
    | fail)
   (try go_frame)
   have HR0:=zIn hrg0
   have HB1 : Hid (Below w.heap.size w w0):=zIn (HB.out.grown hg0 HB.out.size (fun k hk=>by cases hk))
   generalize hr : wr.heap.size = r at HR0 ⊢
   have hrw : w.heap.size ≤ r:=by rw [← hr]; exact HB.out.size
   clear hrg0 hg0 hs0 HB HO hr
   go_loopw [6] (fun _ wr => ∃ (D : DataW Unit) (left : Lit → Bool) (cnt : Nat),Hid (wr.ranges Tryz.prog 30 (plainElem Tryz.prog 3) w.heap.size r i D left cnt) ∧ Hid (Sweeps (tally l) (tHas l) D left) ∧ Hid (Below w.heap.size w wr)) (fun _ wr=>wr.rangeLeft w.heap.size r)
   case atStart=>exact ⟨_,_,_,HR0,HS0,HB1⟩
   case round =>
    clear HR0 HS0 HB1
    obtain ⟨D,left,cnt,HR,HS,HB⟩:=hrel
    go_wp2_with (first
     | (at_next; refine wpList_next_ranges_ii _ rfl _ rfl 30 3 .u64 .i64 (int_keyed Tryz.underlying30) Tryz.underlying30 Tryz.underlying3 w.heap.size r i _ _ _ rfl HR.out ?_ ?_)
     | fail)
    ·intro hc0 hl0
     have HL0:=zIn hl0
     clear hc0 hl0
     go_wp2_with fail
     go_ret
     refine ⟨w.heap.size,i,rfl,⟨D,HR.out.owns,fun k hk=>⟨(HS.out k hk).1, ?_⟩⟩,HB.out⟩
     show _ = decide (tally l k ≠ 0)
     rw [(HS.out k hk).2,HL0.out,Bool.or_false]
     by_cases e : tally l k = 0
     ·rw [decide_eq_false (fun hh=>hh e),Bool.and_false]
     ·rw [decide_eq_true e,Bool.and_true]
      cases hh : tHas l k with
      | true=>rfl
      | false=>exact absurd (zFA hh) e
    ·intro x c w1 cnt1 hwx hwc hlx hat hrg1 hlt hg1 hs1 hen
     have hc : c = tally l x:=by
      have h1:=(HS.out x hwx).1
      rw [hat] at h1
      cases h1
      rfl
     have HG1:=zIn hg1
     have HRG:=zIn hrg1
     have HB1 : Hid (Below w.heap.size w w1):=zIn (HB.out.grown hg1 HB.out.size (fun k hk=>by cases hk; exact hrw))
     have HLT : Hid (cnt1 < cnt):=zIn hlt
     have HWX:=zIn hwx
     have hzz:=(HS.out x hwx).1
     clear hlx hat hg1 hs1 hrg1 hlt hwc hwx hzz
     by_cases hz : c = 0
     case pos =>
      have HS2:=zIn (Sweeps.drop HS.out (x:=x) (by rw [← hc]; exact hz))
      subst hz
      clear hc HS
      go_wp2_with (first
       | (at_delete; refine wpList_delete_ranges _ rfl _ _ 88 30 rfl 3 (int_keyed Tryz.underlying30) Tryz.underlying88 _ w.heap.size r i _ _ _ rfl HRG.out _ _ rfl (keyOf_int_mk Tryz.underlying30 HWX.out) ?_; intro w2 cnt2 hrg2 hle hturn)
       | fail)
      rw [Maps.strike_twice] at hrg2
      have HRG2:=zIn hrg2
      have HB2 : Hid (Below w.heap.size w w2):=zIn (HB1.out.grown hturn.grown HB1.out.size (fun k hk=>by cases hk; exact Nat.le_refl _))
      have HLE : Hid (cnt2 < cnt):=zIn (Nat.lt_of_le_of_lt hle HLT.out)
      clear hrg2 hturn hle hen
      (try go_frame)
      go_roundw
      case rel=>exact ⟨_,_,cnt2,HRG2,HS2,HB2⟩
      case measure=>rw [HRG2.out.left_eq,HR.out.left_eq]; exact HLE.out
     case neg =>
      have q1 : (c == 0) = false:=beq_false_of_ne hz
      have HS2:=zIn (Sweeps.stay HS.out (x:=x) (by rw [← hc]; exact hz))
      clear hc HS hz
      go_wp2_with fail
      go_roundw
      case rel=>exact ⟨_,_,cnt1,HRG,HS2,HB1⟩
      case measure=>rw [HRG.out.left_eq,HR.out.left_eq]; exact HLT.out
end
section
open Go.RowKit
open Go.RowKit Go.Maps
theorem IMap.keys {P : Program} {t kt et : TypeId} {kq : IntKind} (ty : MapTy P t kt et kq) {w : World} {b n : Nat} {F : Int → Int} {M : Int → Bool} {D : DataW Unit} (h : w.ownsMap P kt (plainElem P et) b n D)
  (hD : ∀ k,(Lit.int kq k).wf = true → D.atKey (.int kq k) (.lit (.int .i64 0)) = .lit (.int .i64 (F k)) ∧ Maps.has D (.int kq k) = M k) : ∃ ks : List Int,ks.Nodup ∧ ks.length = Maps.size D ∧ ∀ x,x ∈ ks ↔ ((Lit.int kq x).wf = true ∧ M x = true):=by
 obtain ⟨es,hE,hpw,_⟩:=h.entries (int_keyed ty.hk)
 obtain ⟨es',hE',hko⟩:=h.keysOf
 obtain rfl : es = es':=by rw [hE] at hE'; simpa using hE'
 subst hE
 have hki : ∀ p ∈ es, ∃ x,p.1 = .int kq x ∧ (Lit.int kq x).wf = true:=fun p hp=>by
  obtain ⟨v,hv⟩:=hko p hp
  obtain ⟨x,_,hx,hw⟩:=Maps.keyOf_int_inv ty.hk hv
  exact ⟨x,hx,hw⟩
 refine ⟨es.map (fun p=>Go.intOf p.1), ?_,by simp [Maps.size],fun x=>?_⟩
 ·refine List.pairwise_map.2 (hpw.imp_of_mem fun {p q} hp' hq' hne e=>hne ?_)
  obtain ⟨a,ha,_⟩:=hki p hp'
  obtain ⟨c,hc,_⟩:=hki q hq'
  rw [ha,hc] at e ⊢
  exact congrArg _ e
 ·rw [List.mem_map]
  constructor
  ·rintro ⟨p,hp',rfl⟩
   obtain ⟨a,ha,hw⟩:=hki p hp'
   rw [ha]
   refine ⟨hw, ?_⟩
   show M a = true
   rw [← (hD a hw).2,has_eq,List.any_eq_true]
   exact ⟨p,hp',by rw [ha]; simp [Lit.sameKey]⟩
  ·rintro ⟨hw,hM⟩
   rw [← (hD x hw).2,has_eq,List.any_eq_true] at hM
   obtain ⟨p,hp',hs⟩:=hM
   obtain ⟨a,ha,_⟩:=hki p hp'
   rw [ha] at hs
   exact ⟨p,hp',by rw [ha]; simpa [Lit.sameKey,Go.intOf] using hs⟩
theorem zCj {P : Program} {t' kt et : TypeId} {kq : IntKind} {w : World} {b n : Nat} {F : Int → Int} {M : Int → Bool} {ops : Array Oper} {rest : List Oper} {o : Oper} {a : Act} {Q : Exit → Act → World → Prop} (hg : o.guard = none) (m : Operand) (t : TypeId)
  (hop : o.op = Op.call { callee:=Callee.builtin Builtin.len,args:=#[m],argTypes:=#[t] }) (ty : MapTy P t kt et kq) (hm : a.eval m = .map (some b)) (h : IMap P kt et kq w b n F M)
  (hK : ∀ N : Nat,(∃ ks : List Int,ks.Nodup ∧ ks.length = N ∧ ∀ x,x ∈ ks ↔ ((Lit.int kq x).wf = true ∧ M x = true)) → wpList P ops Q rest (a.put o.dst (.int .i64 N)) w) : wpList P ops Q (o :: rest) a w:=by
 obtain ⟨D,h,hD⟩:=h
 exact wpList_len_own w hg m t hop kt et ty.ht _ b n D hm h (hK _ (IMap.keys ty h hD))
theorem zEE {kq : IntKind} {M : Int → Bool} {N : Nat} (h : ∃ ks : List Int,ks.Nodup ∧ ks.length = N ∧ ∀ x,x ∈ ks ↔ ((Lit.int kq x).wf = true ∧ M x = true)) (hM : ∀ x,M x = false) : N = 0:=by
 obtain ⟨ks,_,rfl,h⟩:=h
 cases ks with
 | nil=>rfl
 | cons x l =>
  have:=((h x).1 List.mem_cons_self).2
  rw [hM x] at this
  cases this
end
end Go.Proofs.YtebgjfhaolgcjaaGreat
