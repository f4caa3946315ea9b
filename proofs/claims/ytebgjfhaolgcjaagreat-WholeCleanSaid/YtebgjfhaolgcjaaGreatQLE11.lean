/- Contracts and plain lemmas that these laws need. No condition. -/
import Derived.DeepKeys5
import Derived.Lib.SlKeysI
import Derived.Maps.OwnOps
import Derived.Maps.OwnSet
import Derived.Maps.RangeWalk
import Derived.Test.YtebgjfhaolgcjaaGreatChecked
import Derived.Test.YtebgjfhaolgcjaaGreatQLE1
import Derived.Test.YtebgjfhaolgcjaaGreatQLE7
import Derived.Test.YtebgjfhaolgcjaaGreatQLE8
import Derived.Test.YtebgjfhaolgcjaaGreatQLE9
import Derived.Test.YtebgjfhaolgcjaaGreatQLE10
namespace Go.Proofs.YtebgjfhaolgcjaaGreat
set_option linter.unusedVariables false
set_option maxHeartbeats 8000000
set_option maxRecDepth 100000
section
open Go.RowKit
def Gone (Y : Nat → Yd) (b p j : Nat) (x : Int) : Prop :=
 ∃ (s g : Nat) (dg : Dd),p < s ∧ s < b ∧ (Y s).C.getD j 0 = (Y (p + 1)).C.getD j 0 ∧ (Y (s + 1)).C.getD j 0 = tkW ((Y (p + 1)).C.getD j 0) ∧ (Y s).moves < (Y b).moves ∧ (Y b).ds[g]? = some dg ∧ dg.kd = 1 ∧ dg.fr < (Y s).moves ∧ (∃ w : Nat,dg.who = w ∧ (∃ k,(Y s).ts[w]? = some (some (.ge k,g))) ∧ (Y (s + 1)).ts[w]? ≠ (Y s).ts[w]?) ∧
  ((∃ (w : Nat) (k : Ge) (a : Ta),(Y b).ts[w]? = some (some (.ge k,g)) ∧ k.ta = some a ∧ a.next = 4 ∧ a.lost = false ∧ a.value = x) ∨ (dg.ok = true ∧ (Y s).moves < dg.till ∧ dg.v = x))
section
variable {B : YB} {N n m b w : Nat} {Y : Nat → Yd}
theorem zGP {Y : Yd} {k : Ge} {i : Nat} (ho : YOk (plOf B N) B.T n Y) (hw : Y.ts[w]? = some (some (.ge k,i))) {q : Nat} (hq : q < N) (hne : (k.cells N (2 * N + w) Y.C).getD q 0 ≠ Y.C.getD q 0) :
  ∃ a,k.ta = some a ∧ a.next = 3 ∧ a.lost = false ∧ a.slot = q ∧ a.word = Y.C.getD q 0 ∧ k.cells N (2 * N + w) Y.C = Y.C.set q (tkW a.word) ∧ ∀ z,k.step N (2 * N + w) Y.C z = { k with ta:=some { a with next:=4 } }:=by
 have hF:=ho.getF hw
 have hnp : ¬ k.ph ≠ 0:=by have:=hF.ph; omega
 cases hta : k.ta with
 | none =>
  exfalso
  apply hne
  unfold Ge.cells
  rw [if_neg hnp,hta]
 | some a =>
  obtain ⟨_,a2,b3,b4,b5⟩:=hF.ta a hta
  have hna : ¬ a.ph ≠ 0:=by omega
  have hc : k.cells N (2 * N + w) Y.C = a.cells a.slot.toNat (2 * N + w) Y.C:=by unfold Ge.cells; rw [if_neg hnp,hta]
  rw [hc] at hne ⊢
  by_cases n0 : a.next = 0
  ·exfalso
   apply hne
   unfold Ta.cells
   rw [if_neg hna,if_pos n0]
   exact zAK _ (by omega)
  by_cases n1 : a.next = 1
  ·exfalso
   apply hne
   unfold Ta.cells
   rw [if_neg hna,if_neg n0,if_pos n1]
  by_cases n2 : a.next = 2
  ·exfalso
   apply hne
   unfold Ta.cells
   rw [if_neg hna,if_neg n0,if_neg n1,if_pos n2]
  by_cases n3 : a.next = 3
  ·by_cases hx : Y.C.getD a.slot.toNat 0 = a.word
   ·have e1 : a.cells a.slot.toNat (2 * N + w) Y.C = Y.C.set a.slot.toNat (tkW a.word):=by
     unfold Ta.cells
     rw [if_neg hna,if_neg n0,if_neg n1,if_neg n2,if_pos n3,if_pos hx]
    rw [e1] at hne ⊢
    have hs : a.slot.toNat = q:=Classical.byContradiction fun hh=>hne (zAK _ hh)
    refine ⟨a,rfl,n3, ?_,by omega,by rw [← hs,hx],by rw [hs],fun z=>?_⟩
    ·rcases b5.st a2 with ⟨h,_⟩ | ⟨h,_⟩ | ⟨h,_⟩ | ⟨_,h⟩ | h
     ·omega
     ·omega
     ·omega
     ·exact h
     ·omega
    ·have e2 : k.step N (2 * N + w) Y.C z = k.grab N (a.go a.slot.toNat (N + a.slot.toNat) Y.C):=by unfold Ge.step; rw [if_neg hnp,hta]
     have e3 : a.go a.slot.toNat (N + a.slot.toNat) Y.C = { a with next:=4 }:=by unfold Ta.go; rw [if_neg hna,if_neg n0,if_neg n1,if_neg n2,if_pos n3,if_pos hx]
     rw [e2,e3]
     unfold Ge.grab
     rw [if_neg (by show ¬ a.ph = 1; omega),if_neg (by show ¬ a.ph = 2; omega)]
   ·exfalso
    apply hne
    unfold Ta.cells
    rw [if_neg hna,if_neg n0,if_neg n1,if_neg n2,if_pos n3,if_neg hx]
  ·exfalso
   apply hne
   unfold Ta.cells
   rw [if_neg hna,if_neg n0,if_neg n1,if_neg n2,if_neg n3]
   exact zAK _ (by omega)
theorem zIZ {k : Ge} {a : Ta} {C : List Int} {hz : Nat} {z : Int} (hp : k.ph = 0) (ha : k.ta = some a) (h0 : a.ph = 0) (hn : a.next = 4) (hl : a.lost = false) : (k.step N hz C z).ph = 1 ∧ (k.step N hz C z).val = a.value:=by
 have e2 : k.step N hz C z = k.grab N (a.go a.slot.toNat (N + a.slot.toNat) C):=by unfold Ge.step; rw [if_neg (by omega),ha]
 have e3 : a.go a.slot.toNat (N + a.slot.toNat) C = { a with next:=5,ph:=1 }:=by unfold Ta.go; rw [if_neg (by omega),if_neg (by omega),if_neg (by omega),if_neg (by omega),if_neg (by omega),if_neg (by rw [hl]; decide)]
 rw [e2,e3]
 unfold Ge.grab
 rw [if_pos rfl]
 exact ⟨rfl,rfl⟩
theorem Gone.next (h : YTr B N Y m) {p j : Nat} {x : Int} (hb : b < m) (hG : Gone Y b p j x) : Gone Y (b + 1) p j x:=by
 obtain ⟨s,g,dg,s1,s2,s3,s4,s5,s6,s7,s8,s9,s10⟩:=hG
 have hA:=h.all b (by omega)
 have hhow:=h.how b hb
 have hmv:=h.moves (show b ≤ b + 1 by omega) (by omega)
 rcases s10 with ⟨w,k,a,r1,r2,r3,r4,r5⟩ | ⟨r1,r2,r3⟩
 ·obtain ⟨_,_,_,kp,dg',k5,k6,k7,k8,_⟩:=hA.ok.task w _ g r1
  rw [s6] at k5
  cases k5
  have hF:=hA.ok.getF r1
  obtain ⟨_,a2,_⟩:=hF.ta a r2
  generalize hZ : Y (b + 1) = Z at hhow hmv
  cases hhow with
  | rest=>exact ⟨s,g,dg,s1,by omega,s3,s4,by rw [hZ]; omega,by rw [hZ]; exact s6,s7,s8,s9,.inl ⟨w,k,a,by rw [hZ]; exact r1,r2,r3,r4,r5⟩⟩
  | pass n hn=>exact ⟨s,g,dg,s1,by omega,s3,s4,by rw [hZ]; omega,by rw [hZ]; exact s6,s7,s8,s9,.inl ⟨w,k,a,by rw [hZ]; exact r1,r2,r3,r4,r5⟩⟩
  | call w0 take kd e x s' h1 h2 h3 =>
   refine ⟨s,g,dg,s1,by omega,s3,s4,by rw [hZ]; omega, ?_,s7,s8,s9,.inl ⟨w,k,a, ?_,r2,r3,r4,r5⟩⟩
   ·rw [hZ]
    show ((Y b).ds ++ [_])[g]? = some dg
    rw [List.getElem?_append_left (List.getElem?_eq_some_iff.1 s6).1]
    exact s6
   ·rw [hZ]
    show ((Y b).ts.set w0 _)[w]? = _
    rw [List.getElem?_set_ne (fun e=>by rw [e,r1] at h1; cases h1)]
    exact r1
  | step w0 T i z h1 h2 =>
   by_cases hw : w0 = w
   ·subst hw
    rw [r1] at h1
    cases h1
    obtain ⟨l1,l2⟩:=zIZ (N:=N) (C:=(Y b).C) (hz:=2 * N + w0) (z:=z) hF.ph r2 a2 r3 r4
    have hph : ¬ ((Wk.ge k).step (plOf B N w0) (Y b).C (Y b).now z).ph = 0:=by
     show ¬ (k.step N (2 * N + w0) (Y b).C z).ph = 0
     omega
    have e4 : dg.over (Y b).moves ((Wk.ge k).step (plOf B N w0) (Y b).C (Y b).now z) = { dg with till:=(Y b).moves,ok:=true,v:=(k.step N (2 * N + w0) (Y b).C z).val,lo:=0,hi:=0 }:=if_pos l1
    refine ⟨s,g, { dg with till:=(Y b).moves,ok:=true,v:=(k.step N (2 * N + w0) (Y b).C z).val,lo:=0,hi:=0 },s1,by omega,s3,s4,by rw [hZ]; omega, ?_,s7,s8,s9,.inr ⟨rfl, ?_, ?_⟩⟩
    ·rw [hZ]
     show (if ((Wk.ge k).step (plOf B N w0) (Y b).C (Y b).now z).ph = 0 then (Y b).ds else (Y b).ds.modify g (fun d=>d.over (Y b).moves ((Wk.ge k).step (plOf B N w0) (Y b).C (Y b).now z)))[g]? = _
     rw [if_neg hph,zBO s6,e4]
    ·show ((Y s).moves : Int) < ((Y b).moves : Int)
     omega
    ·exact l2.trans r5
   ·refine ⟨s,g,dg,s1,by omega,s3,s4,by rw [hZ]; omega, ?_,s7,s8,s9,.inl ⟨w,k,a, ?_,r2,r3,r4,r5⟩⟩
    ·rw [hZ]
     show (if (T.step (plOf B N w0) (Y b).C (Y b).now z).ph = 0 then (Y b).ds else (Y b).ds.modify i (fun d=>d.over (Y b).moves (T.step (plOf B N w0) (Y b).C (Y b).now z)))[g]? = _
     split
     ·exact s6
     ·obtain ⟨_,_,_,_,d2,q5,q6,_⟩:=hA.ok.task w0 _ i h1
      rw [zBa (fun e=>?_)]
      ·exact s6
      ·rw [e,s6] at q5
       cases q5
       rw [k6] at q6
       omega
    ·rw [hZ]
     show (if (T.step (plOf B N w0) (Y b).C (Y b).now z).ph = 0 then (Y b).ts.set w0 (some (T.step (plOf B N w0) (Y b).C (Y b).now z,i)) else (Y b).ts.set w0 none)[w]? = _
     split
     ·rw [List.getElem?_set_ne hw]
      exact r1
     ·rw [List.getElem?_set_ne hw]
      exact r1
 ·exact ⟨s,g,dg,s1,by omega,s3,s4,by omega,hhow.over hA.ok s6 (.inl r1),s7,s8,s9,.inr ⟨r1,r2,r3⟩⟩
theorem PutAt.there (h : YTr B N Y m) {i p j : Nat} {d : Dd} (hP : PutAt Y B N i d p j) : ∀ {b : Nat},p < b → b ≤ m → (Y b).C.getD j 0 = (Y (p + 1)).C.getD j 0 ∨ Gone Y b p j d.x:=by
 intro b hpb hb
 induction b with
 | zero=>omega
 | succ b ih =>
  by_cases hq : p = b
  ·rw [hq]
   exact .inl rfl
  rcases ih (by omega) (by omega) with hs | hg
  ·by_cases hne : (Y (b + 1)).C.getD j 0 = (Y b).C.getD j 0
   ·exact .inl (hne.trans hs)
   right
   have hA:=h.all b (by omega)
   have hhow:=h.how b (by omega)
   have hlv : (Y b).C.getD j 0 % 4 = 1:=by rw [hs]; exact hP.live
   have hj:=hP.lt
   generalize hZ : Y (b + 1) = Z at hhow hne
   cases hhow with
   | rest=>exact absurd rfl hne
   | pass n hn=>exact absurd rfl hne
   | call w0 take kd e x s' h1 h2 h3=>exact absurd rfl hne
   | step w T g z hw ha =>
    obtain ⟨_,_,_,_,dg,k5,k6,k7,k8,_⟩:=hA.ok.task w T g hw
    have hkd:=hA.cok.kind w T g dg hw k5
    have hlt : w < (Y b).ts.length:=(List.getElem?_eq_some_iff.1 hw).1
    cases T with
    | pu k =>
     exfalso
     have hF:=hA.ok.putF h.cf h.hT hA.len hw
     have b1:=hF.lo
     have b2:=hF.hi
     have b3:=hF.n1
     have hT:=h.hT
     have hlen:=hA.len
     obtain ⟨m0,_⟩:=h.cf.own h.hT hF.wT
     have hn:=hF.ok.at' hF.ph
     rcases zEe (nb:=2 * N + B.T) (C:=(Y b).C) (now:=(Y b).now) hF.ph (by rcases hn with h | h | h | h <;> omega) (by omega) (by omega : k.cl.slot.toNat < N) (q:=j) (by omega) with hh | ⟨_,hh,_⟩ | ⟨n3,hh⟩
     ·exact hne hh
     ·omega
     ·rcases hn with ⟨a1,_⟩ | ⟨a1,_⟩ | ⟨a1,_⟩ | ⟨a1,a2,_⟩
      ·omega
      ·omega
      ·omega
      ·have hP:=(hA.aok.put w k g hw).word hF.ph (.inl a2)
       rw [← hh] at hP
       exact hP.1 hlv
    | ge k =>
     obtain ⟨a,t1,t2,t3,t4,t5,t6,t7⟩:=zGP hA.ok hw hj hne
     have hM:=(h.gets b (by omega)).run w k g dg hw k5
     obtain ⟨f,f1,f2,_,f4⟩:=hM.ex
     obtain ⟨c,j',c1,c2,c3,c4,c5,c6,c7⟩:=(f4 a t1).at'
     obtain rfl : j' = j:=by omega
     obtain ⟨u,u1,u2,u3⟩:=c7 t2 t3
     have hwu : (Y u).C.getD j' 0 = (Y (p + 1)).C.getD j' 0:=by
      rw [h.stays hj u1 (Nat.le_of_lt u2) (by omega) (by rw [← c6,t5]), ← c6,t5,hs]
     obtain ⟨i2,d2,q,q1,q2,q3,q4,q5,q6,q7⟩:=(h.puts u (by omega)).live j' hj (by rw [hwu]; exact hP.live)
     obtain ⟨rfl,_⟩:=zG1 h hP q5 (by omega) (by omega) (by rw [← q6,hwu])
     have hx : a.value = d.x:=by rw [u3,q7, ← q5.value,hP.value]
     have hdd:=(hA.ok.deed g dg k5).2.2.1
     have e7:=t7 z
     have hph : ((Wk.ge k).step (plOf B N w) (Y b).C (Y b).now z).ph = 0:=by
      show (k.step N (2 * N + w) (Y b).C z).ph = 0
      rw [e7]
      exact hA.ok.getF hw |>.ph
     have ets : (Y (b + 1)).ts[w]? = some (some (Wk.ge { k with ta:=some { a with next:=4 } },g)):=by
      rw [hZ]
      show (if ((Wk.ge k).step (plOf B N w) (Y b).C (Y b).now z).ph = 0 then (Y b).ts.set w (some ((Wk.ge k).step (plOf B N w) (Y b).C (Y b).now z,g)) else (Y b).ts.set w none)[w]? = _
      rw [if_pos hph,List.getElem?_set_self hlt]
      show some (some (Wk.ge (k.step N (2 * N + w) (Y b).C z),g)) = _
      rw [e7]
     have eds : (Y (b + 1)).ds[g]? = some dg:=by
      rw [hZ]
      show (if ((Wk.ge k).step (plOf B N w) (Y b).C (Y b).now z).ph = 0 then (Y b).ds else (Y b).ds.modify g (fun d=>d.over (Y b).moves ((Wk.ge k).step (plOf B N w) (Y b).C (Y b).now z)))[g]? = _
      rw [if_pos hph]
      exact k5
     have hlen:=hA.len
     have hT:=h.hT
     refine ⟨b,g,dg,by omega,by omega,hs, ?_, ?_,eds,hkd,by omega,⟨w,k6,⟨k,hw⟩, ?_⟩,.inl ⟨w,_,_,ets,rfl,rfl,t3,hx⟩⟩
     ·rw [hZ]
      show (k.cells N (2 * N + w) (Y b).C).getD j' 0 = _
      rw [t6,zAP _ (by omega),t5,hs]
     ·rw [hZ]
      show (Y b).moves < (Y b).moves + 1
      omega
     ·rw [ets,hw]
      intro hh
      have hh':=Wk.ge.inj (Prod.mk.inj (Option.some.inj (Option.some.inj hh))).1
      have h5 : k.ta = some { a with next:=4 }:=by rw [← hh']
      rw [t1] at h5
      have h6 : a = { a with next:=4 }:=Option.some.inj h5
      have h7 : a.next = 4:=by rw [h6]
      omega
  ·exact .inr (hg.next h (by omega))
end
end
section
open Go.RowKit
structure Took (Y : Nat → Yd) (N m p j : Nat) (x : Int) (g c s : Nat) (dg : Dd) : Prop where
 pc : p < c
 cs : c ≤ s
 sm : s < m
 was : (Y s).C.getD j 0 = (Y (p + 1)).C.getD j 0
 new : (Y (s + 1)).C.getD j 0 = tkW ((Y (p + 1)).C.getD j 0)
 isEnd : IsEnd ((Y c).C.take N) dg.e j
 deed : (Y m).ds[g]? = some dg
 kd : dg.kd = 1
 fr : dg.fr < (Y c).moves
 out : dg.till = -1 ∨ (dg.ok = true ∧ (Y s).moves < dg.till ∧ dg.v = x)
 run : ∃ w : Nat,(∃ k,(Y s).ts[w]? = some (some (.ge k,g))) ∧ (Y (s + 1)).ts[w]? ≠ (Y s).ts[w]?
section
variable {B : YB} {N m : Nat} {Y : Nat → Yd}
theorem YTr.later (h : YTr B N Y m) {a : Nat} : ∀ {b : Nat},a ≤ b → b ≤ m → YLater (Y a) (Y b):=by
 intro b hab hb
 induction b with
 | zero =>
  obtain rfl : a = 0:=by omega
  exact YLater.refl _
 | succ b ih =>
  by_cases hq : a = b + 1
  ·rw [← hq]
   exact YLater.refl _
  ·exact (ih (by omega) (by omega)).trans ((h.mv b (by omega)).later (h.all b (by omega)).ok)
theorem Gone.took (h : YTr B N Y m) {i p j : Nat} {d : Dd} (hP : PutAt Y B N i d p j) (hG : Gone Y m p j d.x) : ∃ g c s dg,Took Y N m p j d.x g c s dg:=by
 obtain ⟨s,g,dg,s1,s2,s3,s4,s5,s6,s7,s8,⟨w,s9,⟨k,s10⟩,s11⟩,s12⟩:=hG
 have hA:=h.all s (by omega)
 have hj:=hP.lt
 have hlv:=hP.live
 have hf:=((h.fit (p + 1) (by omega)) j).1
 have htk:=(zAq hf).1
 have hne : (Y (s + 1)).C.getD j 0 ≠ (Y s).C.getD j 0:=fun e=>by
  rw [s4,s3] at e
  omega
 have hmv : ∃ z,Y (s + 1) = (Y s).step (plOf B N w) w (.ge k) g z:=by
  have hhow:=h.how s (by omega)
  generalize hZ : Y (s + 1) = Z at hhow hne s11
  cases hhow with
  | rest=>exact absurd rfl hne
  | pass n hn=>exact absurd rfl hne
  | call w0 take kd e x s' h1 h2 h3=>exact absurd rfl hne
  | step w0 T i0 z h1 h2 =>
   have : w0 = w:=Classical.byContradiction fun hw=>s11 (by
    show (if (T.step (plOf B N w0) (Y s).C (Y s).now z).ph = 0 then (Y s).ts.set w0 (some (T.step (plOf B N w0) (Y s).C (Y s).now z,i0)) else (Y s).ts.set w0 none)[w]? = _
    split <;> exact List.getElem?_set_ne hw)
   subst this
   rw [s10] at h1
   cases h1
   exact ⟨z,rfl⟩
 obtain ⟨z,hmv⟩:=hmv
 have hne' : (k.cells N (2 * N + w) (Y s).C).getD j 0 ≠ (Y s).C.getD j 0:=by
  intro e
  apply hne
  rw [hmv]
  exact e
 obtain ⟨a,t1,t2,t3,t4,t5,_,_⟩:=zGP hA.ok s10 hj hne'
 obtain ⟨_,_,_,_,d0,k5,_⟩:=hA.ok.task w _ g s10
 have hM:=(h.gets s (by omega)).run w k g d0 s10 k5
 obtain ⟨f,f1,f2,_,f4⟩:=hM.ex
 obtain ⟨c,j',c1,c2,c3,c4,c5,c6,c7⟩:=(f4 a t1).at'
 obtain rfl : j' = j:=by omega
 obtain ⟨dg',l1,l2,l3,l4,l5,l6,l7,_⟩:=(h.later (show s ≤ m by omega) (Nat.le_refl _)).deed g d0 k5
 rw [s6] at l1
 cases l1
 have hword : (Y c).C.getD j' 0 = (Y (p + 1)).C.getD j' 0:=by rw [← c6,t5,s3]
 have hpc : p < c:=Nat.lt_of_not_le fun hcp=>by
  have:=h.stays hj (a:=c) (b:=p) (c:=p + 1) hcp (by omega) (by omega) hword
  have hfree:=hP.free
  rw [this,hword] at hfree
  exact hfree hlv
 have hfc:=h.moves c1 (by omega)
 refine ⟨g,c,s,dg,hpc,by omega,s2,s3,s4,by rw [l4, ← hM.e]; exact c5,s6,s7,by omega, ?_,w,⟨k,s10⟩,s11⟩
 rcases s12 with ⟨w',k',a',r1,_⟩ | ⟨r1,r2,r3⟩
 ·obtain ⟨_,_,_,_,d2,q5,_,q7,_⟩:=(h.all m (Nat.le_refl _)).ok.task w' _ g r1
  rw [s6] at q5
  cases q5
  exact .inl q7
 ·exact .inr ⟨r1,r2,r3⟩
end
end
section
open Go.RowKit
def dDo (row : List Int) (d : Dd) : Option (List Int) :=
 if d.kd = 0 then if d.ok = true then some (if d.e = 0 then d.x :: row else row ++ [d.x]) else some row
 else if d.ok = true then
  if row = [] then none
  else if d.e = 0 then if row.getD 0 0 = d.v then some (row.drop 1) else none
  else if row.getD (row.length - 1) 0 = d.v then some (row.take (row.length - 1)) else none
 else if row = [] then some row else none
def dAns (row : List Int) (d : Dd) : Dd :=
 if 0 ≤ d.till then d else { d with ok:=true,v:=if d.kd = 1 ∧ row ≠ [] then (if d.e = 1 then row.getD (row.length - 1) 0 else row.getD 0 0) else 0,lo:=0,hi:=0 }
def oRun (l : List Dd) : List Int → List Nat → Option (List Int)
 | row,[]=>some row
 | row,i :: s=>match l[i]? with
  | some d=>(dDo row (dAns row d)).bind (fun r=>oRun l r s)
  | none=>none
structure Holds (l : List Dd) (D : Nat → Prop) (row : List Int) (s : List Nat) : Prop where
 nodup : s.Nodup
 new : ∀ i ∈ s,¬ D i
 all : ∀ (i : Nat) (d : Dd),l[i]? = some d → 0 ≤ d.till → D i ∨ i ∈ s
 ahead : ∀ (p i k : Nat) (d o : Dd),s[p]? = some i → l[i]? = some d → l[k]? = some o → dBef o d → D k ∨ ∃ q,q < p ∧ s[q]? = some k
 run : ∃ r,oRun l row s = some r
end
section
open Go.RowKit
structure It where
 i : Nat
 k : Int
 p : Nat
 x : Int
 tk : Option (Nat × Nat × Nat)
def It.ops (a : It) : List Nat:=match a.tk with
 | none=>[a.i]
 | some t=>[a.i,t.1]
section
variable {bef : Nat → Nat → Prop} {I J A B : List It} {l : List Dd} {a b x : It} {o : Nat}
theorem It.ops_iff : o ∈ a.ops ↔ o = a.i ∨ ∃ t,a.tk = some t ∧ o = t.1:=by
 unfold It.ops
 cases h : a.tk with
 | none=>simp
 | some t=>simp
end
end
section
open Go.RowKit
section
variable {r : Nat → Nat → Prop} {I J : List It} {l : List Dd} {a x : It} {o : Nat}
end
end
section
open Go.RowKit
structure Em where
 i : Nat
 c : Nat
structure Ems (bef : Nat → Nat → Prop) (I : List It) (E : List Em) : Prop where
 pe : ∀ a ∈ I,∀ e ∈ E,bef a.i e.i → a.p < e.c
 ge : ∀ a ∈ I,∀ t,a.tk = some t → ∀ e ∈ E,bef t.1 e.i → t.2.2 < e.c
 ep : ∀ e ∈ E,∀ a ∈ I,bef e.i a.i → e.c ≤ a.p
 eg : ∀ e ∈ E,∀ a ∈ I,∀ t,a.tk = some t → bef e.i t.1 → e.c < t.2.1
 ee : ∀ e ∈ E,∀ f ∈ E,bef e.i f.i → e.c < f.c
 none : ∀ e ∈ E,∀ a ∈ I,a.p < e.c → ∃ t,a.tk = some t ∧ t.2.2 < e.c
 new : ∀ e ∈ E,∀ a ∈ I,e.i ∉ a.ops
section
variable {bef : Nat → Nat → Prop} {I J : List It} {l : List Dd}
def befL (l : List Dd) (i k : Nat) : Prop := ∃ d o,l[i]? = some d ∧ l[k]? = some o ∧ dBef d o
end
end
section
open Go.RowKit
structure IsItem (Y : Nat → Yd) (B : YB) (N m : Nat) (a : It) (d : Dd) (j : Nat) : Prop where
 deed : (Y m).ds[a.i]? = some d
 kd : d.kd = 0
 ok : d.ok = true
 pm : a.p < m
 put : PutAt Y B N a.i d a.p j
 x : a.x = d.x
 k : a.k = pkey d.e d.lo d.hi j
 no : a.tk = none → (Y m).C.getD j 0 = (Y (a.p + 1)).C.getD j 0
 yes : ∀ t,a.tk = some t → ∃ dg,Took Y N m a.p j d.x t.1 t.2.1 t.2.2 dg
section
variable {B : YB} {N m : Nat} {Y : Nat → Yd}
theorem zFr (h : YTr B N Y m) {i : Nat} {d : Dd} (hd : (Y m).ds[i]? = some d) (hk : d.kd = 0) (ho : d.ok = true) : ∃ a j,a.i = i ∧ IsItem Y B N m a d j:=by
 obtain ⟨p,j,hp,hP⟩:=(h.puts m (Nat.le_refl _)).done i d hd hk ho
 by_cases hs : (Y m).C.getD j 0 = (Y (p + 1)).C.getD j 0
 ·exact ⟨⟨i,pkey d.e d.lo d.hi j,p,d.x,none⟩,j,rfl,hd,hk,ho,hp,hP,rfl,rfl,fun _=>hs,fun t ht=>by cases ht⟩
 ·obtain ⟨g,c,s,dg,ht⟩:=((hP.there h hp (Nat.le_refl _)).resolve_left hs).took h hP
  exact ⟨⟨i,pkey d.e d.lo d.hi j,p,d.x,some (g,c,s)⟩,j,rfl,hd,hk,ho,hp,hP,rfl,rfl,fun hh=>(by cases hh),fun t hh=>by cases hh; exact ⟨dg,ht⟩⟩
theorem IsItem.word (h : YTr B N Y m) {a : It} {d : Dd} {j : Nat} (ha : IsItem Y B N m a d j) {c : Nat} (h1 : a.p < c) (h2 : ∀ t,a.tk = some t → c ≤ t.2.2) (hc : c ≤ m) : (Y c).C.getD j 0 = (Y (a.p + 1)).C.getD j 0:=by
 cases htk : a.tk with
 | none=>exact h.stays ha.put.lt (c:=m) (by omega) hc (Nat.le_refl _) (ha.no htk).symm
 | some t =>
  obtain ⟨dg,ht⟩:=ha.yes t htk
  have:=ht.sm
  exact h.stays ha.put.lt (c:=t.2.2) (by omega) (h2 t htk) (by omega) ht.was.symm
theorem IsItem.wkey (h : YTr B N Y m) {a : It} {d : Dd} {j : Nat} (ha : IsItem Y B N m a d j) {c : Nat} (h1 : a.p < c) (h2 : ∀ t,a.tk = some t → c ≤ t.2.2) (hc : c ≤ m) : wkey ((Y c).C.take N) j = a.k ∧ live ((Y c).C.take N) j:=by
 have hw:=ha.word h h1 h2 hc
 have e1:=ha.put.word
 have s1:=ha.put.st
 have g1:=ha.put.gen
 have x0:=ha.put.e0
 have x1:=ha.put.e1
 have hl:=ha.put.live
 have e2 : ((Y c).C.take N).getD j 0 = (Y (a.p + 1)).C.getD j 0:=by rw [zCc ha.put.lt,hw]
 refine ⟨?_,by unfold live; rw [e2]; exact hl⟩
 show xkey _ _ = _
 rw [e2,ha.k]
 unfold xkey
 rw [show (Y (a.p + 1)).C.getD j 0 / 4 % 2 = d.e by omega,show (Y (a.p + 1)).C.getD j 0 / 65536 % 16777216 = d.lo by omega,show (Y (a.p + 1)).C.getD j 0 / 1099511627776 = d.hi by omega]
theorem zIA (h : YTr B N Y m) {a b : It} {d d' : Dd} {j j' : Nat} (ha : IsItem Y B N m a d j) (hb : IsItem Y B N m b d' j') {g c s : Nat} {x : Int} {dg : Dd} (ht : Took Y N m a.p j x g c s dg) (hk : a.tk = some (g,c,s)) (h1 : b.p < c) (h2 : ∀ t,b.tk = some t → c ≤ t.2.2) :
  if dg.e = 0 then a.k ≤ b.k else b.k ≤ a.k:=by
 have k1:=ht.cs
 have k2:=ht.sm
 obtain ⟨wa,_⟩:=ha.wkey h ht.pc (fun t htt=>by rw [hk] at htt; cases htt; exact k1) (by omega)
 obtain ⟨wb,lb⟩:=hb.wkey h h1 h2 (by omega)
 rcases ht.isEnd with ⟨e,_⟩ | ⟨i,e1,e2,e3,e4⟩
 ·omega
 ·obtain rfl : i = j:=by omega
  have hl : ((Y c).C.take N).length = N:=by
   rw [List.length_take]
   have:=(h.all c (by omega)).len
   have:=h.hT
   omega
  have:=e4 j' (by rw [hl]; exact hb.put.lt) lb
  rw [wa,wb] at this
  exact this
theorem dfr (h : YTr B N Y m) {i : Nat} {d : Dd} (hd : (Y m).ds[i]? = some d) : 0 ≤ d.till → d.fr < d.till:=fun ht=>((h.all m (Nat.le_refl _)).ok.deed i d hd).2.2.2 (by omega) |>.1
theorem mv_lt (h : YTr B N Y m) {a b : Nat} (ha : a ≤ m) (hl : ((Y a).moves : Int) < (Y b).moves) : a < b:=Nat.lt_of_not_le fun hba=>by
 have:=h.moves hba ha
 omega
end
end
section
open Go.RowKit
section
variable {B : YB} {N m : Nat} {Y : Nat → Yd}
theorem zDr (h : YTr B N Y m) : ∃ I : List It,(∀ a ∈ I, ∃ d j,IsItem Y B N m a d j) ∧ (∀ (i : Nat) (d : Dd),(Y m).ds[i]? = some d → d.kd = 0 → d.ok = true → ∃ a ∈ I,a.i = i) ∧ ∀ a ∈ I,∀ b ∈ I,a.i = b.i → a = b:=by
 have hex : ∀ i : Nat, ∃ a : It,(∃ d,(Y m).ds[i]? = some d ∧ d.kd = 0 ∧ d.ok = true) → a.i = i ∧ ∃ d j,IsItem Y B N m a d j:=fun i=>by
  by_cases hq : ∃ d,(Y m).ds[i]? = some d ∧ d.kd = 0 ∧ d.ok = true
  ·obtain ⟨d,h1,h2,h3⟩:=hq
   obtain ⟨a,j,e,ha⟩:=zFr h h1 h2 h3
   exact ⟨a,fun _=>⟨e,d,j,ha⟩⟩
  ·exact ⟨⟨0,0,0,0,none⟩,fun hh=>absurd hh hq⟩
 obtain ⟨f,hf⟩:=Classical.axiomOfChoice hex
 have hS : ∀ i,i ∈ (List.range (Y m).ds.length).filter (fun i=>((Y m).ds[i]?).any (fun d=>decide (d.kd = 0) && d.ok)) ↔ ∃ d,(Y m).ds[i]? = some d ∧ d.kd = 0 ∧ d.ok = true:=fun i=>by
  rw [List.mem_filter,List.mem_range]
  constructor
  ·rintro ⟨h1,h2⟩
   rw [List.getElem?_eq_getElem h1] at h2 ⊢
   simp at h2
   exact ⟨_,rfl,h2.1,h2.2⟩
  ·rintro ⟨d,h1,h2,h3⟩
   refine ⟨(List.getElem?_eq_some_iff.1 h1).1, ?_⟩
   rw [h1]
   simp [h2,h3]
 refine ⟨_,fun a ha=>?_,fun i d h1 h2 h3=>⟨f i,List.mem_map.2 ⟨i,(hS i).2 ⟨d,h1,h2,h3⟩,rfl⟩,(hf i ⟨d,h1,h2,h3⟩).1⟩,fun a ha b hb hab=>?_⟩
 ·obtain ⟨i,hi,rfl⟩:=List.mem_map.1 ha
  exact (hf i ((hS i).1 hi)).2
 ·obtain ⟨i,hi,rfl⟩:=List.mem_map.1 ha
  obtain ⟨i',hi',rfl⟩:=List.mem_map.1 hb
  have e1:=(hf i ((hS i).1 hi)).1
  have e2:=(hf i' ((hS i').1 hi')).1
  have : i = i':=by omega
  rw [this]
structure IsEm (Y : Nat → Yd) (N m : Nat) (e : Em) (d : Dd) : Prop where
 deed : (Y m).ds[e.i]? = some d
 kd : d.kd = 1
 ok : d.ok = false
 till : 0 ≤ d.till
 fr : d.fr < (Y e.c).moves
 le : ((Y e.c).moves : Int) ≤ d.till
 cm : e.c ≤ m
 none : ∀ j,j < N → ¬ (Y e.c).C.getD j 0 % 4 = 1
theorem em_of (h : YTr B N Y m) {i : Nat} {d : Dd} (hd : (Y m).ds[i]? = some d) (hk : d.kd = 1) (ho : d.ok = false) (ht : 0 ≤ d.till) : ∃ e : Em,e.i = i ∧ IsEm Y N m e d:=by
 obtain ⟨f,c,b',h1,h2,h3,h4,h5,h6⟩:=((h.gets m (Nat.le_refl _)).done i d hd hk (by omega)).no ho
 have m1:=h.moves h2 (by omega)
 have m2:=h.moves h3 h4
 refine ⟨⟨i,c⟩,rfl,hd,hk,ho,ht,by show d.fr < (Y c).moves; omega,by show ((Y c).moves : Int) ≤ _; omega,by show c ≤ m; omega,fun j hj hl=>?_⟩
 rcases h6 with ⟨_,hn⟩ | ⟨i',e1,_⟩
 ·refine hn j ?_ ?_
  ·rw [List.length_take]
   have:=(h.all c (by omega)).len
   have:=h.hT
   omega
  ·unfold live
   rw [zCc hj]
   exact hl
 ·omega
theorem ems_of (h : YTr B N Y m) {I : List It} {E : List Em} (hI : ∀ a ∈ I, ∃ d j,IsItem Y B N m a d j) (hE : ∀ e ∈ E, ∃ d,IsEm Y N m e d) : Ems (befL (Y m).ds) I E:=by
 have tl : ∀ a d j,IsItem Y B N m a d j → ((Y a.p).moves : Int) = d.till ∧ d.fr < (Y a.p).moves:=fun a d j pa=>by
  have e:=pa.put.till
  have:=dfr h pa.deed (by omega)
  omega
 refine ⟨fun a ha e he hbf=>?_,fun a ha t ht e he hbf=>?_,fun e he a ha hbf=>?_,fun e he a ha t ht hbf=>?_,fun e he f hf hbf=>?_,fun e he a ha hlt=>?_,fun e he a ha hm=>?_⟩
 ·obtain ⟨d,j,pa⟩:=hI a ha
  obtain ⟨de,pe⟩:=hE e he
  obtain ⟨x,y,x1,x2,x3,x4⟩:=hbf
  rw [pa.deed] at x1
  rw [pe.deed] at x2
  cases x1
  cases x2
  have:=tl a d j pa
  have:=pe.fr
  exact mv_lt h (by have:=pa.pm; omega) (by omega)
 ·obtain ⟨d,j,pa⟩:=hI a ha
  obtain ⟨de,pe⟩:=hE e he
  obtain ⟨dg,tk⟩:=pa.yes t ht
  obtain ⟨x,y,x1,x2,x3,x4⟩:=hbf
  rw [tk.deed] at x1
  rw [pe.deed] at x2
  cases x1
  cases x2
  have:=pe.fr
  have:=tk.sm
  rcases tk.out with q | ⟨_,q,_⟩
  ·omega
  ·exact mv_lt h (by omega) (by omega)
 ·obtain ⟨d,j,pa⟩:=hI a ha
  obtain ⟨de,pe⟩:=hE e he
  obtain ⟨x,y,x1,x2,x3,x4⟩:=hbf
  rw [pe.deed] at x1
  rw [pa.deed] at x2
  cases x1
  cases x2
  have:=tl a d j pa
  have:=pe.le
  exact Nat.le_of_lt (mv_lt h pe.cm (by omega))
 ·obtain ⟨d,j,pa⟩:=hI a ha
  obtain ⟨de,pe⟩:=hE e he
  obtain ⟨dg,tk⟩:=pa.yes t ht
  obtain ⟨x,y,x1,x2,x3,x4⟩:=hbf
  rw [pe.deed] at x1
  rw [tk.deed] at x2
  cases x1
  cases x2
  have:=pe.le
  have:=tk.fr
  exact mv_lt h pe.cm (by omega)
 ·obtain ⟨de,pe⟩:=hE e he
  obtain ⟨df,pf⟩:=hE f hf
  obtain ⟨x,y,x1,x2,x3,x4⟩:=hbf
  rw [pe.deed] at x1
  rw [pf.deed] at x2
  cases x1
  cases x2
  have:=pe.le
  have:=pf.fr
  exact mv_lt h pe.cm (by omega)
 ·obtain ⟨d,j,pa⟩:=hI a ha
  obtain ⟨de,pe⟩:=hE e he
  apply Classical.byContradiction
  intro hno
  have hw:=pa.word h hlt (fun t ht=>Nat.le_of_not_lt fun hh=>hno ⟨t,ht,hh⟩) pe.cm
  exact pe.none j pa.put.lt (by rw [hw]; exact pa.put.live)
 ·obtain ⟨d,j,pa⟩:=hI a ha
  obtain ⟨de,pe⟩:=hE e he
  rcases It.ops_iff.1 hm with e1 | ⟨t,ht,e1⟩
  ·have q:=pe.deed
   rw [e1,pa.deed] at q
   cases q
   have:=pa.kd
   have:=pe.kd
   omega
  ·obtain ⟨dg,tk⟩:=pa.yes t ht
   have q:=tk.deed
   rw [← e1,pe.deed] at q
   cases q
   have:=pe.till
   rcases tk.out with q | ⟨q,_⟩
   ·omega
   ·rw [pe.ok] at q
    cases q
theorem zCG (h : YTr B N Y m) {I : List It} (hI : ∀ a ∈ I, ∃ d j,IsItem Y B N m a d j) (hin : ∀ (i : Nat) (d : Dd),(Y m).ds[i]? = some d → d.kd = 0 → d.ok = true → ∃ a ∈ I,a.i = i) {g : Nat} {dg : Dd} (hd : (Y m).ds[g]? = some dg) (hk : dg.kd = 1) (ho : dg.ok = true) (ht : 0 ≤ dg.till) : ∃ a ∈ I, ∃ t,a.tk = some t ∧ t.1 = g:=by
 obtain ⟨w,f,b',_,_,hb',_,hgot⟩:=((h.gets m (Nat.le_refl _)).done g dg hd hk (by omega)).ok ho
 obtain ⟨c,s,j,i,p,d,hh⟩:=zIu h hb' hgot
 have k1:=hh.sb
 have k2:=hh.cs
 have k3:=hh.pc
 have hdm:=h.over (show c ≤ m by omega) (Nat.le_refl _) hh.deed (.inl hh.ok)
 obtain ⟨a,ha,rfl⟩:=hin i d hdm hh.kd hh.ok
 obtain ⟨d',j',pa⟩:=hI a ha
 have q:=pa.deed
 rw [hdm] at q
 cases q
 have hpp : a.p = p:=by
  have e1:=pa.put.till
  have e2:=hh.put.till
  obtain ⟨w1,k1',r1,r2,r3⟩:=pa.put.run
  obtain ⟨w2,k2',r1',r2',r3'⟩:=hh.put.run
  have hpm:=pa.pm
  rcases Nat.lt_trichotomy a.p p with hl | he | hl
  ·obtain ⟨_,_,_,_,d2,x5,_,x7,_⟩:=(h.all p (by omega)).ok.task w2 _ a.i r2'
   have hlat:=(h.later (show a.p + 1 ≤ p by omega) (by omega))
   have hdone : (Y (a.p + 1)).ds[a.i]? = some d ∨ ∃ x,(Y (a.p + 1)).ds[a.i]? = some x ∧ x.till = -1:=by
    cases hx : (Y (a.p + 1)).ds[a.i]? with
    | none =>
     obtain ⟨_,_,_,_,d3,y5,_⟩:=(h.all a.p (by omega)).ok.task w1 _ a.i r2
     obtain ⟨d4,z1,_⟩:=(h.later (show a.p ≤ a.p + 1 by omega) (by omega)).deed a.i d3 y5
     rw [hx] at z1
     cases z1
    | some x =>
     by_cases hxt : x.till = -1
     ·exact .inr ⟨x,rfl,hxt⟩
     ·have:=h.over (show a.p + 1 ≤ m by omega) (Nat.le_refl _) hx (.inr hxt)
      rw [hdm] at this
      cases this
      exact .inl rfl
   rcases hdone with hx | ⟨x,hx,hxt⟩
   ·have:=h.over (show a.p + 1 ≤ p by omega) (by omega) hx (.inl hh.ok)
    rw [this] at x5
    cases x5
    omega
   ·obtain ⟨⟨w3,g1,g2,g3⟩,_⟩:=(h.all (a.p + 1) (by omega)).ok.deed a.i x hx
    obtain ⟨T,hT⟩:=g3 hxt
    obtain ⟨_,_,_,_,d3,y5,y6,_⟩:=(h.all a.p (by omega)).ok.task w1 _ a.i r2
    obtain ⟨d4,z1,z2,_⟩:=(h.later (show a.p ≤ a.p + 1 by omega) (by omega)).deed a.i d3 y5
    rw [hx] at z1
    cases z1
    have : w3 = w1:=by omega
    rw [this,r3] at hT
    cases hT
  ·exact he
  ·obtain ⟨_,_,_,_,d2,x5,_,x7,_⟩:=(h.all a.p (by omega)).ok.task w1 _ a.i r2
   have:=h.over (show c ≤ m by omega) (Nat.le_refl _) hh.deed (.inl hh.ok)
   by_cases hca : c ≤ a.p
   ·have:=h.over hca (by omega) hh.deed (.inl hh.ok)
    rw [this] at x5
    cases x5
    omega
   ·obtain ⟨_,_,_,_,d3,y5,y6,_⟩:=(h.all p (by omega)).ok.task w2 _ a.i r2'
    cases hx : (Y (p + 1)).ds[a.i]? with
    | none =>
     obtain ⟨d4,z1,_⟩:=(h.later (show p ≤ p + 1 by omega) (by omega)).deed a.i d3 y5
     rw [hx] at z1
     cases z1
    | some x =>
     by_cases hxt : x.till = -1
     ·obtain ⟨⟨w3,g1,g2,g3⟩,_⟩:=(h.all (p + 1) (by omega)).ok.deed a.i x hx
      obtain ⟨T,hT⟩:=g3 hxt
      obtain ⟨d4,z1,z2,_⟩:=(h.later (show p ≤ p + 1 by omega) (by omega)).deed a.i d3 y5
      rw [hx] at z1
      cases z1
      have : w3 = w2:=by omega
      rw [this,r3'] at hT
      cases hT
     ·have h4:=h.over (show p + 1 ≤ a.p by omega) (by omega) hx (.inr hxt)
      rw [h4] at x5
      cases x5
      exact absurd x7 hxt
 subst hpp
 have hjj : j' = j:=by
  apply Classical.byContradiction
  intro hne
  have e1:=pa.put.rest j (fun e=>hne e.symm)
  have l1:=hh.put.live
  have f1:=hh.put.free
  rw [e1] at l1
  exact f1 l1
 subst hjj
 have l1:=hh.put.live
 have ff:=((h.fit (a.p + 1) (by omega)) j').1
 have tw:=(zAq ff).1
 have hnew : (Y (s + 1)).C.getD j' 0 = tkW ((Y (a.p + 1)).C.getD j' 0):=by rw [hh.new,hh.word]
 have hwas : (Y s).C.getD j' 0 = (Y (a.p + 1)).C.getD j' 0:=by rw [hh.was,hh.word]
 refine ⟨a,ha, ?_⟩
 cases htk : a.tk with
 | none =>
  have:=h.stays hh.lt (a:=a.p + 1) (b:=s + 1) (c:=m) (by omega) (by omega) (Nat.le_refl _) (pa.no htk).symm
  rw [hnew] at this
  omega
 | some t =>
  refine ⟨t,rfl, ?_⟩
  obtain ⟨dg',tk⟩:=pa.yes t htk
  have q1:=tk.sm
  have q2:=tk.pc
  have q3:=tk.cs
  have hss : t.2.2 = s:=by
   rcases Nat.lt_trichotomy t.2.2 s with hl | he | hl
   ·have:=h.stays hh.lt (a:=t.2.2) (b:=t.2.2 + 1) (c:=s) (by omega) (by omega) (by omega) (by rw [tk.was,hwas])
    rw [tk.new,tk.was] at this
    omega
   ·exact he
   ·have:=h.stays hh.lt (a:=s) (b:=s + 1) (c:=t.2.2) (by omega) (by omega) (by omega) (by rw [tk.was,hwas])
    rw [hnew,hwas] at this
    omega
  obtain ⟨w1,⟨k1',r1⟩,r2⟩:=tk.run
  obtain ⟨k2',r1'⟩:=hh.run
  rw [hss] at r1 r2
  have hw:=zEw (h.how s (by omega)) r2 hh.turn
  subst hw
  rw [r1] at r1'
  exact (Prod.mk.inj (Option.some.inj (Option.some.inj r1'))).2
end
end
section
open Go.RowKit
section
variable {B : YB} {N m : Nat} {Y : Nat → Yd}
end
end
section
open Go.RowKit
section
variable {B : YB} {N m : Nat} {Y : Nat → Yd}
theorem zFb (h : YTr B N Y m) {g : Nat} {dg : Dd} (hd : (Y m).ds[g]? = some dg) (hk : dg.kd = 1) (ho : dg.ok = true) (ht : 0 ≤ dg.till) :
  ∃ (i : Nat) (d : Dd),(Y m).ds[i]? = some d ∧ d.kd = 0 ∧ d.ok = true ∧ dg.v = d.x ∧ d.till < dg.till ∧
   ((∀ (i i' : Nat) (d d' : Dd),(Y m).ds[i]? = some d → (Y m).ds[i']? = some d' → d.kd = 0 → d'.kd = 0 → d.x = d'.x → i = i') → ∀ (g' : Nat) (dg' : Dd),(Y m).ds[g']? = some dg' → dg'.kd = 1 → dg'.ok = true → 0 ≤ dg'.till → dg'.v = dg.v → g' = g):=by
 obtain ⟨I,hI,hin,hu⟩:=zDr h
 obtain ⟨a,ha,t,htk,rfl⟩:=zCG h hI hin hd hk ho ht
 obtain ⟨d,j,pa⟩:=hI a ha
 obtain ⟨dg',tk⟩:=pa.yes t htk
 have q:=tk.deed
 rw [hd] at q
 cases q
 have k1:=tk.pc
 have k2:=tk.cs
 have k3:=tk.sm
 have e:=pa.put.till
 have hmv:=h.moves (show a.p ≤ t.2.2 by omega) (by omega)
 rcases tk.out with q | ⟨_,q,hv⟩
 ·omega
 refine ⟨a.i,d,pa.deed,pa.kd,pa.ok,hv,by omega,fun hx g' dg2 hd2 hk2 ho2 ht2 hv2=>?_⟩
 obtain ⟨b,hb,u,huk,rfl⟩:=zCG h hI hin hd2 hk2 ho2 ht2
 obtain ⟨d2,j2,pb⟩:=hI b hb
 obtain ⟨dg3,tk2⟩:=pb.yes u huk
 have q2:=tk2.deed
 rw [hd2] at q2
 cases q2
 rcases tk2.out with q3 | ⟨_,_,hv3⟩
 ·omega
 have:=hx b.i a.i d2 d pb.deed pa.deed pb.kd pa.kd (by rw [← hv3,hv2,hv])
 have:=hu b hb a ha this
 subst this
 rw [htk] at huk
 cases huk
 rfl
theorem zEW (h : YTr B N Y m) (hrest : ∀ (g : Nat) (dg : Dd),(Y m).ds[g]? = some dg → dg.kd = 1 → 0 ≤ dg.till) {e i : Nat} {de d : Dd} (hde : (Y m).ds[e]? = some de) (hk : de.kd = 1) (ho : de.ok = false) (hd : (Y m).ds[i]? = some d) (hk' : d.kd = 0) (ho' : d.ok = true) (hb : dBef d de) :
  ∃ (k : Nat) (dk : Dd),(Y m).ds[k]? = some dk ∧ dk.kd = 1 ∧ dk.ok = true ∧ dk.v = d.x ∧ ¬ dBef de dk:=by
 obtain ⟨a,j,rfl,pa⟩:=zFr h hd hk' ho'
 obtain ⟨em,rfl,pe⟩:=em_of h hde hk ho (hrest e de hde hk)
 have q:=pa.deed
 have hE:=ems_of h (I:=[a]) (E:=[em]) (fun b hb=>by rw [List.mem_singleton.1 hb]; exact ⟨_,_,pa⟩) (fun f hf=>by rw [List.mem_singleton.1 hf]; exact ⟨_,pe⟩)
 have ha:=List.mem_singleton.2 (rfl : a = a)
 have hem:=List.mem_singleton.2 (rfl : em = em)
 have hlt:=hE.pe a ha em hem ⟨d,de,hd,hde,hb⟩
 obtain ⟨t,htk,hs⟩:=hE.none em hem a ha hlt
 obtain ⟨dg,tk⟩:=pa.yes t htk
 have h0:=hrest t.1 dg tk.deed tk.kd
 rcases tk.out with q | ⟨q1,q2,q3⟩
 ·omega
 ·refine ⟨t.1,dg,tk.deed,tk.kd,q1,q3,fun hbf=>?_⟩
  have r1:=pe.le
  have r2:=tk.fr
  have r3:=tk.cs
  have hmv:=h.moves (show t.2.1 ≤ em.c by omega) pe.cm
  have:=hbf.2
  omega
def dNear (e : Int) (d' d : Dd) : Prop:=if d'.e = e then d.e ≠ e ∨ dBef d d' else d.e ≠ e ∧ dBef d' d
theorem zFM (h : YTr B N Y m) (hN : N < 1048576) {a b : It} {d d' : Dd} {j j' : Nat} (ha : IsItem Y B N m a d j) (hb : IsItem Y B N m b d' j') {t : Nat × Nat × Nat} {dg : Dd} (hk : a.tk = some t) (tk : Took Y N m a.p j d.x t.1 t.2.1 t.2.2 dg) (he : dg.e = 0 ∨ dg.e = 1) (hbf : dBef d' dg) (hl : ∀ u,b.tk = some u → t.2.1 ≤ u.2.2) :
  ¬ dNear dg.e d' d:=by
 intro hn
 have hS:=(h.all m (Nat.le_refl _)).sok
 have e1:=hb.put.till
 have f1:=tk.fr
 have hlt : b.p < t.2.1:=mv_lt h (by have:=hb.pm; omega) (by have:=hbf.2; omega)
 have htop:=zIA h ha hb tk hk hlt hl
 have sa:=ha.put.st
 have sb:=hb.put.st
 have ja:=ha.put.lt
 have jb:=hb.put.lt
 have x0:=ha.put.e0
 have x1:=ha.put.e1
 have y0:=hb.put.e0
 have y1:=hb.put.e1
 have o1 : dBef d d' → d.hi < d'.lo:=fun hh=>hS.order a.i b.i d d' ha.deed hb.deed ha.kd ha.ok hb.kd hb.ok hh.2
 have o2 : dBef d' d → d'.hi < d.lo:=fun hh=>hS.order b.i a.i d' d hb.deed ha.deed hb.kd hb.ok ha.kd ha.ok hh.2
 rw [ha.k,hb.k] at htop
 unfold pkey lkey at htop
 unfold dNear at hn
 rcases he with he | he
 ·rw [if_pos he] at htop
  rw [he] at hn
  by_cases h1 : d'.e = 0
  ·rw [if_pos h1] at hn htop
   rcases hn with hn | hn
   ·rw [if_neg hn] at htop
    omega
   ·have:=o1 hn
    by_cases h2 : d.e = 0
    ·rw [if_pos h2] at htop
     omega
    ·rw [if_neg h2] at htop
     omega
  ·rw [if_neg h1] at hn htop
   have:=o2 hn.2
   rw [if_neg hn.1] at htop
   omega
 ·rw [if_neg (by omega)] at htop
  rw [he] at hn
  by_cases h1 : d'.e = 1
  ·rw [if_pos h1] at hn
   rw [if_neg (by omega : ¬ d'.e = 0)] at htop
   rcases hn with hn | hn
   ·rw [if_pos (by omega : d.e = 0)] at htop
    omega
   ·have:=o1 hn
    by_cases h2 : d.e = 0
    ·rw [if_pos h2] at htop
     omega
    ·rw [if_neg h2] at htop
     omega
  ·rw [if_neg h1] at hn
   rw [if_pos (by omega : d'.e = 0)] at htop
   have:=o2 hn.2
   rw [if_pos (by omega : d.e = 0)] at htop
   omega
end
end
section
open Go.RowKit
def hadBy (v : Int) (d : Dd) : Prop:=d.kd = 1 ∧ d.ok = true ∧ d.v = v
instance (v : Int) (d : Dd) : Decidable (hadBy v d):=inferInstanceAs (Decidable (_ ∧ _))
theorem YTr.callN {B : YB} {N m : Nat} {Yg : Nat → Yd} {Y : Yd} (h : YTr B N Yg m) (hY : Yg m = Y) {k : Nat} (take : Bool) {kd e x s : Int} (hk : kdI take = kd) (he : e = 0 ∨ e = 1) (x0 : 0 ≤ x) (x1 : x ≤ 18446744073709551615) (hq : Y.ts[k]? = some none) (hm : m + 1 < 1000000) :
  YTr B N (fun i=>if i ≤ m then Yg i else Y.call k kd e x s (wkB B N k take e x s)) (m + 1):=by
 have hA:=h.all m (Nat.le_refl _)
 have hf:=h.fit m (Nat.le_refl _)
 rw [hY] at hA hf
 have hw : YHow B N Y (Y.call k kd e x s (wkB B N k take e x s)):=.call k take kd e x s hq he hk
 refine h.snoc (by rw [hY]; exact hw) (by
  rw [hY]
  exact hw.mv_of (fun w take' kd' e' x' s' he=>by
   have e1:=congrArg Yd.ds he
   have e2 : (Y.ds ++ [(⟨(k : Int),kd,e,x,s,Y.moves, -1,false,0,0,0⟩ : Dd)]) = Y.ds ++ [⟨(w : Int),kd',e',x',s',Y.moves, -1,false,0,0,0⟩]:=e1
   have e3:=List.append_cancel_left e2
   simp only [List.cons.injEq,Dd.mk.injEq,and_true] at e3
   rw [← e3.2.2.2.1]
   exact ⟨x0,x1⟩) h.cf h.hT hA.len hA.ok) hf hm
structure TkIs (l : List Dd) (v : Int) (r : Int) : Prop where
 is : (r = -1 ∧ ∀ d ∈ l,¬ hadBy v d) ∨ ∃ (i : Nat) (d : Dd),r = i ∧ l[i]? = some d ∧ hadBy v d
def DOwn (l : List Dd) : Prop:=∀ (i i' : Nat) (d d' : Dd),l[i]? = some d → l[i']? = some d' → d.kd = 0 → d'.kd = 0 → d.x = d'.x → i = i'
section
variable {B : YB} {N m : Nat} {Y : Nat → Yd}
theorem zDY (h : YTr B N Y m) {i : Nat} {d : Dd} (hd : (Y m).ds[i]? = some d) (ho : d.ok = true) : 0 ≤ d.till:=by
 have hA:=(h.all m (Nat.le_refl _)).ok
 obtain ⟨⟨w,_,_,g3⟩,_,_,g6⟩:=hA.deed i d hd
 by_cases e : d.till = -1
 ·obtain ⟨T,hT⟩:=g3 e
  obtain ⟨_,_,_,_,d',k5,_,_,k8,_⟩:=hA.task w T i hT
  rw [hd] at k5
  cases k5
  rw [k8] at ho
  cases ho
 ·have h1:=(g6 e).1
  have h2:=(hA.deed i d hd).2.1
  omega
theorem zHr (h : YTr B N Y m) (hN : N < 1048576) (hx : DOwn (Y m).ds) {g io ip : Nat} {dg do' dp : Dd} (hg : (Y m).ds[g]? = some dg) (gk : dg.kd = 1) (go : dg.ok = true) (ge : dg.e = 0 ∨ dg.e = 1) (ho : (Y m).ds[io]? = some do') (ok : do'.kd = 0) (ov : do'.x = dg.v) (hp : (Y m).ds[ip]? = some dp) (pk : dp.kd = 0) (po : dp.ok = true) (hb : dBef dp dg) {r : Int} (hr : TkIs (Y m).ds dp.x r)
  (hk : (r < 0 ∧ ∀ (k : Nat) (dk : Dd),(Y m).ds[k]? = some dk → dk.kd = 1 → 0 ≤ dk.till) ∨ ∃ (k : Nat) (dk : Dd),r = k ∧ (Y m).ds[k]? = some dk ∧ dBef dg dk) : ¬ dNear dg.e dp do':=by
 obtain ⟨I,hI,hin,hu⟩:=zDr h
 obtain ⟨a,ha,t,htk,rfl⟩:=zCG h hI hin hg gk go (zDY h hg go)
 obtain ⟨d,j,pa⟩:=hI a ha
 obtain ⟨dg2,tk⟩:=pa.yes t htk
 have q:=tk.deed
 rw [hg] at q
 cases q
 have tout:=tk.out
 have tt:=zDY h hg go
 rcases tout with q | ⟨_,q2,q3⟩
 ·omega
 have ea : a.i = io:=hx a.i io d do' pa.deed ho pa.kd ok (by rw [ov,q3])
 have pd:=pa.deed
 rw [ea,ho] at pd
 cases pd
 obtain ⟨b,hbI,hbi⟩:=hin ip dp hp pk po
 obtain ⟨d2,j2,pb⟩:=hI b hbI
 have pd:=pb.deed
 rw [hbi,hp] at pd
 cases pd
 have c1:=tk.cs
 have c2:=tk.sm
 refine zFM h hN pa pb htk tk ge hb (fun u hu2=>?_)
 obtain ⟨du,tu⟩:=pb.yes u hu2
 have u1:=tu.cs
 have u2:=tu.sm
 rcases hk with ⟨r0,hrest⟩ | ⟨k,dk,rfl,hdk,hbf⟩
 ·exfalso
  rcases tu.out with q | ⟨p1,p2,p3⟩
  ·have:=hrest u.1 du tu.deed tu.kd
   omega
  ·rcases hr.is with ⟨_,q⟩ | ⟨i',d',rfl,_⟩
   ·exact q du (List.mem_of_getElem? tu.deed) ⟨tu.kd,p1,p3⟩
   ·omega
 ·have hkh : hadBy dp.x dk:=by
   rcases hr.is with ⟨q,_⟩ | ⟨i',d',q,h6,h7⟩
   ·omega
   ·obtain rfl : i' = k:=by omega
    rw [hdk] at h6
    cases h6
    exact h7
  obtain ⟨b',hb',v,hv,hv1⟩:=zCG h hI hin hdk hkh.1 hkh.2.1 (zDY h hdk hkh.2.1)
  obtain ⟨d3,j3,pb'⟩:=hI b' hb'
  obtain ⟨dv,tv⟩:=pb'.yes v hv
  have q:=tv.deed
  rw [hv1,hdk] at q
  cases q
  have tk0:=zDY h hdk hkh.2.1
  rcases tv.out with q | ⟨_,_,q5⟩
  ·omega
  have e1:=hx b'.i b.i d3 dp pb'.deed pb.deed pb'.kd pb.kd (by rw [← q5,hkh.2.2])
  have e2:=hu b' hb' b hbI e1
  subst e2
  rw [hu2] at hv
  cases hv
  have f1:=tv.fr
  have f2:=hbf.2
  have m1:=h.moves (show t.2.1 ≤ t.2.2 by omega) (by omega)
  have : t.2.1 < u.2.1:=mv_lt h (by omega) (by omega)
  omega
end
end
section
open Go.RowKit
structure TopRn (w : World) (r : Ending) (w' : World) (W : World) (l : List Thing) (yb ytb p c T : Nat) (s so : Int) (N : Nat) (S : List CM) (Yf : Nat → Yd) (An : List Int) (J : Nat → Nat) (g : Nat) (st : Int × Int × List CM) (n : Nat) : Prop where
 ret : r = .returned (pt yb)
 below : Below w.heap.size w W
 run : PRn W w' l ⟨yb,ytb,p,c,T,s,so,1,T⟩ N S Yf An J g
 T1 : 1 ≤ T
 T4 : T ≤ 4
 s1 : 1 ≤ s
 s4 : s ≤ 4
 n16 : N ≤ 16
 eq : (T : Int) * s = N
 ok : TopOk T st n
 is : st.2.2 = S
 few : n ≤ 300
theorem rightC44 {t s so d : Int} (t1 : 1 ≤ t) (t4 : t ≤ 4) (s1 : 1 ≤ s) (s4 : s ≤ 4) (o0 : 0 ≤ so) (o4 : so ≤ 4) (d0 : 0 ≤ d) (d3 : d ≤ 3) : rightC t s so d = true:=decide_eq_true ⟨by omega,by omega,by omega,by omega,by omega,by omega,by omega,by omega⟩
theorem zGv (a0 a1 a2 mode most : Int) (a5 : Option Addr) (cap : Nat) (V : List LM) (w : World) (hV : RowL w a5 cap V) (hl : V.length ≤ 300) (hm : mode = 0 ∨ mode = 1 ∨ mode = 2) :
  Calls Tryz.prog 24 #[.int .i64 a0,.int .i64 a1,.int .i64 a2,.int .i64 mode,.int .i64 most,.slice a5 V.length cap] w fun r w' => ∃ W l yb ytb p c T s so N S Yf An J g,TopRn w r w' W l yb ytb p c T s so N S Yf An J g (topS T mode most V) V.length ∧ (T : Int) = 1 + a0 % 4:=by
 have HV:=zI2 hV
 clear hV
 have HSC:=zI2 (zFA a0 a1 a2 mode most a5 cap V w HV.out hl hm)
 obtain ⟨t,ht⟩ : ∃ t,1 + a0 % 4 = t:=⟨_,rfl⟩
 obtain ⟨s,hs⟩ : ∃ s,1 + a1 % 4 = s:=⟨_,rfl⟩
 obtain ⟨so,hso⟩ : ∃ so,wrap64 ((IntKind.u64.wrap a2).tmod 5) = so:=⟨_,rfl⟩
 have ho:=src5 a2
 rw [ht,hs,hso] at HSC
 rw [hso] at ho
 rw [ht]
 have hR:=zI2 (rightC44 (t:=t) (s:=s) (so:=so) (d:=1) (by omega) (by omega) (by omega) (by omega) ho.1 ho.2 (by decide) (by decide))
 have HOK:=zI2 (TopOk.of (T:=t) mode most (by omega) (by omega) V (by omega))
 have HTS:=zI2 (show 1 ≤ t ∧ t ≤ 4 ∧ 1 ≤ s ∧ s ≤ 4 by omega)
 obtain ⟨S,hS⟩ : ∃ S,(topS t mode most V).2.2 = S:=⟨_,rfl⟩
 rw [hS] at HSC
 have HSE:=zI2 hS
 have HSG:=zI2 (hS ▸ HOK.out.right)
 have hSl : S.length ≤ 300:=by have h:=HOK.out.len; rw [hS] at h; omega
 have HL:=zI2 hl
 clear ht hs hso ho hS hl
 go_enter Tryz.func24,Tryz.ntmps24
 go_wp2_with fail
 refine HSC.out.mono ?_
 rintro r w1 ⟨A1,cp1,rfl,hb1,hrow⟩
 have HB1:=zI2 (zAB hb1 (.cells #[.int .i64 t,.int .i64 s,.int .i64 so,.int .i64 1,.slice A1 S.length cp1] 29))
 have HI:=zI2 ((IsAt.own hrow).later (zAB (Below.refl _ _) (.cells #[.int .i64 t,.int .i64 s,.int .i64 so,.int .i64 1,.slice A1 S.length cp1] 29)))
 clear hb1 hrow HSC
 go_wp2_with fail
 refine (zDE t s so 1 A1 cp1 S _ HI.out (fun m hm=>(HSG.out m hm).2) (by omega)).mono ?_
 rintro r w3 ⟨vE,eE,rfl,hb3,hE⟩
 obtain ⟨rfl,ho⟩:=hE.yes hR.out (by omega) (fun m hm=>(HSG.out m hm).1)
 obtain ⟨Ab,cpb,rfl⟩:=zAM ho
 have HB3:=zI2 (zAA HB1.out hb3)
 have HIB:=zI2 (IsAt.own ho)
 have hcb:=zCV ho
 have HBY:=zI2 (zCs hR.out (fun m hm=>(HSG.out m hm).1))
 have hlen : ([t,s,so,1] ++ encs S).length ≤ 1000000:=by
  have:=zCK S
  rw [List.length_append]
  show 4 + _ ≤ _
  omega
 clear hb3 ho hE HB1 HI
 obtain ⟨lb,hlb⟩ : ∃ lb,[t,s,so,1] ++ encs S = lb:=⟨_,rfl⟩
 rw [hlb] at hcb hlen HIB HBY ⊢
 have HLB:=zI2 hlb
 clear hlb
 go_wp2_with fail
 refine (zDH Ab lb cpb w3 HIB.out HBY.out hcb hlen).mono ?_
 rintro r w4 (⟨w5,v',n',e',hD',he',rfl,hb⟩ | ⟨T,s',so',d',N,ms',W,lx,yb,ytb,p,c,Yf,An,J,g,hP⟩)
 ·exact absurd (hD'.yes HLB.out.symm hR.out HSG.out (by omega)).1 he'
 ·obtain ⟨h1,h2,h3,h4,h5,rfl,h7,h8⟩:=hP
  have e1:=HLB.out.trans h1
  simp only [List.cons_append,List.nil_append,List.cons.injEq] at e1
  obtain ⟨rfl,rfl,rfl,rfl,e6⟩:=e1
  obtain rfl:=zDN HSG.out h2 e6
  have HP:=zI2 h8
  have HB4:=zI2 (zAA HB3.out h7)
  have HLY:=zI2 h5
  clear h1 h2 h3 h4 h5 h7 h8 e6 HB3 HIB HBY
  go_wp2_with fail
  go_ret
  refine ⟨W,lx,yb,ytb,p,c,T,s,so,N,S,Yf,An,J,g,⟨rfl,HB4.out,HP.out,by have:=HTS.out; omega,by have:=HTS.out; omega,by have:=HTS.out; omega,by have:=HTS.out; omega, ?_,HLY.out.eq,HOK.out,HSE.out,HL.out⟩,rfl⟩
  have h1:=HLY.out.eq
  have h2 : (T : Int) * s ≤ 4 * 4:=Int.mul_le_mul (by have:=HTS.out; omega) (by have:=HTS.out; omega) (by have:=HTS.out; omega) (by omega)
  omega
end
section
open Go.RowKit
def BA : YB:=⟨0,0,0,0,(2 : Nat),2,0,0,2⟩
def YA : Yd:=((yd0 4 2).call 0 0 1 5 0 (wkB BA 4 0 false 1 5 0)).call 1 0 0 6 0 (wkB BA 4 1 false 0 6 0)
theorem lA_8 : (lookF BA 4 (fun _=>0) YA 8).1.ts = [none,none] ∧ (lookF BA 4 (fun _=>0) YA 8).2 = 8 ∧ (lookF BA 4 (fun _=>0) YA 8).1.moves = 10 ∧ ∃ d0 d1,(lookF BA 4 (fun _=>0) YA 8).1.ds = [d0,d1] ∧ (d0.kd = 0 ∧ d0.e = 1 ∧ d0.x = 5 ∧ d0.ok = true ∧ d0.till = 8) ∧ (d1.kd = 0 ∧ d1.e = 0 ∧ d1.x = 6 ∧ d1.ok = true ∧ d1.till = 9) :=
 ⟨rfl,rfl,rfl,_,_,rfl,⟨rfl,rfl,rfl,rfl,rfl⟩,⟨rfl,rfl,rfl,rfl,rfl⟩⟩
theorem lA_ts : ∀ j,j < 8 → ∃ (a : Option (Wk × Nat)) (k : Pu) (i : Nat),(lookF BA 4 (fun _=>0) YA j).1.ts = [a,some (.pu k,i)] ∧ ∀ T i',a = some (T,i') → ∃ k',T = .pu k'
 | 0,_=>⟨_,_,_,rfl,fun T i' h=>by cases h; exact ⟨_,rfl⟩⟩
 | 1,_=>⟨_,_,_,rfl,fun T i' h=>by cases h; exact ⟨_,rfl⟩⟩
 | 2,_=>⟨_,_,_,rfl,fun T i' h=>by cases h; exact ⟨_,rfl⟩⟩
 | 3,_=>⟨_,_,_,rfl,fun T i' h=>by cases h; exact ⟨_,rfl⟩⟩
 | 4,_=>⟨_,_,_,rfl,fun T i' h=>by cases h; exact ⟨_,rfl⟩⟩
 | 5,_=>⟨_,_,_,rfl,fun T i' h=>by cases h; exact ⟨_,rfl⟩⟩
 | 6,_=>⟨_,_,_,rfl,fun T i' h=>by cases h; exact ⟨_,rfl⟩⟩
 | 7,_=>⟨_,_,_,rfl,fun T i' h=>by cases h⟩
 | j + 8,h=>by omega
theorem finA {j s : Nat} {Y : Yd} (h : Tick BA 4 YA j Y s) (hi : ∀ k,k < 2 → Y.ts[k]? = some none) : s = 8 ∧ Y = (lookF BA 4 (fun _=>0) YA 8).1:=by
 have h8 : ∀ a,a ∈ (lookF BA 4 (fun _=>0) YA 8).1.ts → a = none:=fun a ha=>by
  rw [lA_8.1] at ha
  simpa using ha
 have hst:=zDn h8
 have hl:=h.look (z:=fun _=>0) (fun j T i z' hk _=>by
  rcases Nat.lt_or_ge j 8 with hj | hj
  ·obtain ⟨a,k,q,e,hp⟩:=lA_ts j hj
   rw [e] at hk
   rcases (show j % 2 = 0 ∨ j % 2 = 1 by omega) with e2 | e2
   ·have hk' : [a,some (Wk.pu k,q)][j % 2]? = some (some (T,i)):=hk
    rw [e2] at hk'
    have hk2 : a = some (T,i):=by simpa using hk'
    obtain ⟨k',rfl⟩:=hp T i hk2
    rfl
   ·have hk' : [a,some (Wk.pu k,q)][j % 2]? = some (some (T,i)):=hk
    rw [e2] at hk'
    cases hk'
    rfl
  ·obtain ⟨k,rfl⟩ : ∃ k,j = 8 + k:=⟨j - 8,by omega⟩
   rw [hst] at hk
   have:=h8 _ (List.mem_of_getElem? hk)
   cases this)
 rcases Nat.lt_or_ge j 8 with hj | hj
 ·obtain ⟨a,k,q,e,_⟩:=lA_ts j hj
  rw [hl] at e
  have:=hi 1 (by decide)
  have e' : Y.ts = _:=e
  rw [e'] at this
  cases this
 ·obtain ⟨k,rfl⟩ : ∃ k,j = 8 + k:=⟨j - 8,by omega⟩
  rw [hst] at hl
  exact ⟨(congrArg Prod.snd hl).symm.trans lA_8.2.1,(congrArg Prod.fst hl).symm⟩
theorem zEG {B : YB} {N j s : Nat} {Y0 Y : Yd} (h : Tick B N Y0 j Y s) : Y.ds.length = Y0.ds.length:=by
 induction h with
 | zero=>rfl
 | skip h hn ih=>exact ih
 | @step j Y s h T i z hk ha ih =>
  rw [← ih]
  show (if _ then Y.ds else Y.ds.modify i _).length = _
  split
  ·rfl
  ·rw [List.length_modify]
theorem yA_of {yb ytb p c : Nat} {Yf : Nat → Yd} {An : List Int} (h : PTr ⟨yb,ytb,p,c,(2 : Nat),2,0,0,2⟩ 4 [⟨0,0,0,1,5,0,0⟩,⟨0,1,0,0,6,0,0⟩] Yf An) : Yf 2 = YA:=by
 obtain ⟨a,ha⟩ : ∃ a,An[0]? = some a:=⟨_,List.getElem?_eq_getElem (by rw [h.len]; decide)⟩
 obtain ⟨a',ha'⟩ : ∃ a,An[1]? = some a:=⟨_,List.getElem?_eq_getElem (by rw [h.len]; decide)⟩
 have h1:=h.at' 0 _ a rfl ha
 have h2:=h.at' 1 _ a' rfl ha'
 have hz : Yf 0 = yd0 4 2:=h.tr.zero
 rw [hz] at h1
 have e1:=(zF9 (k:=0) (e:=1) (x:=5) h1 (by show (0 : Int) < (2 : Nat); decide) (.inr rfl) rfl).2
 have h2' : PDo _ 4 ⟨0,1,0,0,6,0,0⟩ (Yf 1) (Yf 2) a':=h2
 have e1' : Yf 1 = _:=e1
 rw [e1'] at h2'
 exact (zF9 (k:=1) (e:=0) (x:=6) h2' (by show (1 : Int) < (2 : Nat); decide) (.inl rfl) rfl).2
theorem aliveV {B : YB} {Yg : Nat → Yd} {m : Nat} (hs : B.s = 2) (ht : YTr B 4 Yg m) {n0 : Nat} (hn0 : n0 < m) (h0 : Yg n0 = (lookF BA 4 (fun _=>0) YA 8).1) {T0 : Wk} (h1 : Yg (n0 + 1) = (Yg n0).call 0 1 0 0 0 T0) (hl : (Yg m).ds.length = 3) (hi : ∀ k,k < B.T → (Yg m).ts[k]? = some none) :
  ∃ d0 d1 d2,(Yg m).ds = [d0,d1,d2] ∧ d2.ok = true ∧ d2.v = 6:=by
 obtain ⟨_,_,hmv,d0,d1,hds,p0,p1⟩:=lA_8
 have hA:=(ht.all m (Nat.le_refl _)).ok
 have L0:=ht.later (a:=n0) (b:=m) (by omega) (Nat.le_refl _)
 have L1:=ht.later (a:=n0 + 1) (b:=m) (by omega) (Nat.le_refl _)
 have g0 : (Yg m).ds[0]? = some d0:=by
  obtain ⟨d',a,_,_,_,_,_,_,b⟩:=L0.deed 0 d0 (by rw [h0,hds]; rfl)
  rw [b (by omega)] at a
  exact a
 have g1 : (Yg m).ds[1]? = some d1:=by
  obtain ⟨d',a,_,_,_,_,_,_,b⟩:=L0.deed 1 d1 (by rw [h0,hds]; rfl)
  rw [b (by omega)] at a
  exact a
 obtain ⟨d2,g2,_,k2,e2,_,_,f2,_⟩:=L1.deed 2 ⟨(0 : Nat),1,0,0,0,(Yg n0).moves, -1,false,0,0,0⟩ (by
  rw [h1]
  show ((Yg n0).ds ++ [_])[2]? = _
  rw [h0,hds]
  rfl)
 have k2' : d2.kd = 1:=k2
 have e2' : d2.e = 0:=e2
 have f2' : d2.fr = 10:=by
  rw [f2]
  show ((Yg n0).moves : Int) = 10
  rw [h0,hmv]
  rfl
 have over : ∀ (i : Nat) (d : Dd),(Yg m).ds[i]? = some d → 0 ≤ d.till:=fun i d hd=>by
  obtain ⟨⟨w,_,hw,g3⟩,q0,_,g6⟩:=hA.deed i d hd
  by_cases e : d.till = -1
  ·obtain ⟨T,hT⟩:=g3 e
   rw [hi w hw] at hT
   cases hT
  ·have:=(g6 e).1
   omega
 have hall : ∀ (i : Nat) (d : Dd),(Yg m).ds[i]? = some d → (i = 0 ∧ d = d0) ∨ (i = 1 ∧ d = d1) ∨ (i = 2 ∧ d = d2):=fun i d hd=>by
  have hlt:=(List.getElem?_eq_some_iff.1 hd).1
  rw [hl] at hlt
  match i,hlt,hd with
  | 0,_,hd=>rw [g0] at hd; cases hd; exact .inl ⟨rfl,rfl⟩
  | 1,_,hd=>rw [g1] at hd; cases hd; exact .inr (.inl ⟨rfl,rfl⟩)
  | 2,_,hd=>rw [g2] at hd; cases hd; exact .inr (.inr ⟨rfl,rfl⟩)
 have hx : DOwn (Yg m).ds:=fun i i' d d' q q' r r' e=>by
  rcases hall i d q with ⟨rfl,rfl⟩ | ⟨rfl,rfl⟩ | ⟨rfl,rfl⟩ <;> rcases hall i' d' q' with ⟨rfl,rfl⟩ | ⟨rfl,rfl⟩ | ⟨rfl,rfl⟩ <;> omega
 have b0 : dBef d0 d2:=⟨by omega,by omega⟩
 have b1 : dBef d1 d2:=⟨by omega,by omega⟩
 have ok2 : d2.ok = true:=by
  cases hok : d2.ok with
  | true=>rfl
  | false =>
   obtain ⟨k,dk,q1,q2,q3,q4,q5⟩:=zEW ht (fun g dg hg _=>over g dg hg) g2 k2' hok g1 p1.1 p1.2.2.2.1 b1
   rcases hall k dk q1 with ⟨_,rfl⟩ | ⟨_,rfl⟩ | ⟨_,rfl⟩
   ·omega
   ·omega
   ·rw [hok] at q3
    cases q3
 refine ⟨d0,d1,d2, ?_,ok2, ?_⟩
 ·refine List.ext_getElem? (fun i=>?_)
  rcases Nat.lt_or_ge i 3 with h | h
  ·match i,h with
   | 0,_=>exact g0
   | 1,_=>exact g1
   | 2,_=>exact g2
  ·rw [List.getElem?_eq_none (by omega),List.getElem?_eq_none (by exact h)]
 ·obtain ⟨i,d,q1,q2,_,q4,_⟩:=zFb ht g2 k2' ok2 (over 2 d2 g2)
  rcases hall i d q1 with ⟨rfl,rfl⟩ | ⟨rfl,rfl⟩ | ⟨_,rfl⟩
  ·exfalso
   refine zHr ht (by decide) hx g2 k2' ok2 (.inl e2') g0 p0.1 q4.symm g1 p1.1 p1.2.2.2.1 b1 (r := -1) ⟨.inl ⟨rfl,fun d hd hh=>?_⟩⟩ (.inl ⟨by decide,fun k dk hk _=>over k dk hk⟩) ?_
   ·obtain ⟨i,hi2⟩:=List.mem_iff_getElem?.1 hd
    have h1:=hh.1
    have h2:=hh.2.2
    rcases hall i d hi2 with ⟨_,rfl⟩ | ⟨_,rfl⟩ | ⟨_,rfl⟩ <;> omega
   ·unfold dNear
    rw [e2',if_pos p1.2.1]
    left
    omega
  ·omega
  ·omega
theorem zBq (w : World) : Calls Tryz.prog 23 #[] w fun r w'=>r = .returned (.bool true) ∧ Below w.heap.size w w':=by
 have hn1:=zAB (Below.refl w.heap.size w) (.cells (flatM [⟨0,0,0,1,5,0,0⟩,⟨0,1,0,0,6,0,0⟩]).toArray 39)
 have hn2:=zAB (Below.refl (w.alloc (.cells (flatM [⟨0,0,0,1,5,0,0⟩,⟨0,1,0,0,6,0,0⟩]).toArray 39)).heap.size _) (.cells #[.int .i64 2,.int .i64 2,.int .i64 0,.int .i64 0,.slice (some ⟨w.heap.size,0,none⟩) 2 2] 29)
 have hI : IsAt (w.alloc (.cells (flatM [⟨0,0,0,1,5,0,0⟩,⟨0,1,0,0,6,0,0⟩]).toArray 39)) (some ⟨w.heap.size,0,none⟩) (flatM [⟨0,0,0,1,5,0,0⟩,⟨0,1,0,0,6,0,0⟩]):=fun _=>⟨w.heap.size,0,rfl,by simp,fun j u hj=>by
  rw [Nat.zero_add]
  exact (IsObj.made w (flatM [⟨0,0,0,1,5,0,0⟩,⟨0,1,0,0,6,0,0⟩]) 39).at' j u hj⟩
 have HI:=zI2 (hI.later hn2)
 have HB:=zI2 (zAA hn1 hn2)
 clear hn1 hn2 hI
 have hg : ∀ m ∈ ([⟨0,0,0,1,5,0,0⟩,⟨0,1,0,0,6,0,0⟩] : List CM),m.Good:=fun m hm=>by
  simp only [List.mem_cons,List.not_mem_nil,or_false] at hm
  rcases hm with rfl | rfl
  ·exact ⟨.inl ⟨rfl,by decide,by decide,rfl,.inr rfl,.inl ⟨rfl,rfl⟩⟩,by decide,by decide⟩
  ·exact ⟨.inl ⟨rfl,by decide,by decide,rfl,.inl rfl,.inl ⟨rfl,rfl⟩⟩,by decide,by decide⟩
 have HG:=zI2 hg
 clear hg
 go_enter Tryz.func23,Tryz.ntmps23
 go_wp2_with fail
 refine (zDE 2 2 0 0 (some ⟨w.heap.size,0,none⟩) 2 [⟨0,0,0,1,5,0,0⟩,⟨0,1,0,0,6,0,0⟩] _ HI.out (fun m hm=>(HG.out m hm).2) (by decide)).mono ?_
 rintro r w3 ⟨vE,eE,rfl,hb3,hE⟩
 have hR : rightC 2 2 0 0 = true:=by decide
 obtain ⟨rfl,ho⟩:=hE.yes hR (by decide) (fun m hm=>(HG.out m hm).1)
 obtain ⟨Ab,cpb,rfl⟩:=zAM ho
 have HB3:=zI2 (zAA HB.out hb3)
 have HIB:=zI2 (IsAt.own ho)
 have hcb:=zCV ho
 have HBY:=zI2 (zCs hR (fun m hm=>(HG.out m hm).1))
 have HRR:=zI2 hR
 obtain ⟨lb,hlb⟩ : ∃ lb,[2,2,0,0] ++ encs [⟨0,0,0,1,5,0,0⟩,⟨0,1,0,0,6,0,0⟩] = lb:=⟨_,rfl⟩
 have hlen : lb.length ≤ 1000000:=by rw [← hlb]; decide
 rw [hlb] at hcb HIB HBY ⊢
 have HLB:=zI2 hlb
 clear hb3 ho hE hR hlb HB HI
 go_wp2_with fail
 refine (zDH Ab lb cpb w3 HIB.out HBY.out hcb hlen).mono ?_
 rintro r w4 (⟨w5,v',n',e',hD',he',rfl,hb⟩ | ⟨T,s',so',d',N,ms',W,lx,yb,ytb,p,c,Yf,An,J,g,hP⟩)
 ·exact absurd (hD'.yes HLB.out.symm HRR.out HG.out (by decide)).1 he'
 obtain ⟨h1,h2,h3,h4,h5,rfl,h7,h8⟩:=hP
 have e1:=HLB.out.trans h1
 simp only [List.cons_append,List.nil_append,List.cons.injEq] at e1
 obtain ⟨e2,rfl,rfl,rfl,e6⟩:=e1
 obtain rfl : T = 2:=by omega
 obtain rfl : N = 4:=by have:=h5.eq; omega
 obtain rfl:=zDN HG.out h2 e6
 have HP:=zI2 h8
 have HB4:=zI2 (zAA HB3.out h7)
 clear h1 h2 h3 h4 h5 h7 h8 e6 e2 HB3 HIB HBY hcb hlen
 simp only [List.length_cons,List.length_nil]
 go_wp2_with fail
 refine (zCH (n:=2) HP.out.yd HP.out.tr.tr (by decide) (by show 2 ≤ 4; decide) (by decide) (by show (2 : Int) ≤ 4; decide) (by show (0 : Int) ≤ 3; decide)).mono ?_
 rintro r w6 ⟨s,j,l',Y',J',Yg,rfl,hF⟩
 obtain ⟨hs,hY8⟩:=finA (j:=j) (s:=s) (Y:=Y') (by have h:=hF.tick.like (B':=BA) ⟨rfl,rfl,rfl,rfl,rfl⟩; rw [yA_of HP.out.tr] at h; exact h) (fun k hk=>hF.idle k hk)
 subst hs
 have HF:=zI2 hF
 have HY8:=zI2 hY8
 clear hF hY8 HP
 go_wp2_with fail
 refine (HF.out.yd.call (by decide) 0 (by show 0 < 2; decide) true (kd:=1) rfl 0 0 0 (.inl rfl) (by decide) (by decide)).mono ?_
 rintro r w7 ⟨l7,J7,Y7,hd7,hg7,h7⟩
 rcases h7 with ⟨_,_,a,ha⟩ | ⟨rfl,hq,rfl⟩
 ·have:=HF.out.idle 0 (by show 0 < 2; decide)
  rw [this] at ha
  cases ha
 have htr7:=HF.out.tr.callN HF.out.at' (k:=0) true (kd:=1) (e:=0) (x:=0) (s:=0) rfl (.inl rfl) (by decide) (by decide) hq (by decide)
 have HT7:=zI2 htr7
 have HD7:=zI2 hd7
 clear htr7 hd7 hg7 hq
 go_wp2_with fail
 refine (zCH (n:=11) (Yf:=fun i=>if i ≤ 2 + 8 then Yg i else Y'.call 0 1 0 0 0 (wkB ⟨yb,ytb,p,c,(2 : Nat),2,0,0,2⟩ 4 0 true 0 0 0)) HD7.out HT7.out (by decide) (by show 2 ≤ 4; decide) (by decide) (by show (2 : Int) ≤ 4; decide) (by show (0 : Int) ≤ 3; decide)).mono ?_
 rintro r w8 ⟨s2,j2,l8,Y8,J8,Yg8,rfl,hF8⟩
 have hlen8 : (Yg8 (11 + s2)).ds.length = 3:=by
  rw [hF8.at',zEG hF8.tick]
  show (Y'.ds ++ [_]).length = 3
  rw [HY8.out]
  obtain ⟨_,_,_,d0,d1,hds,_⟩:=lA_8
  rw [hds]
  rfl
 obtain ⟨d0,d1,d2,hds,hok,hv⟩:=aliveV (n0:=10) rfl hF8.tr (by omega) (by rw [hF8.same 10 (by decide)]; show (if 10 ≤ 2 + 8 then Yg 10 else _) = _; rw [if_pos (by decide), ← HY8.out]; exact HF.out.at') (by
  rw [hF8.same 11 (by decide),hF8.same 10 (by decide)]
  show (if 11 ≤ 2 + 8 then _ else _) = Yd.call (if 10 ≤ 2 + 8 then Yg 10 else _) _ _ _ _ _ _
  rw [if_neg (by decide),if_pos (by decide)]
  have e:=HF.out.at'
  rw [show Yg 10 = Y' from e]) hlen8 (fun k hk=>by rw [hF8.at']; exact hF8.idle k hk)
 rw [hF8.at'] at hds
 have HF8:=zI2 hF8
 have HV:=zI2 (And.intro hds (And.intro hok hv))
 have hdl : Y8.ds.length = 3:=by rw [hds]; rfl
 clear hF8 hlen8 hds hok hv HD7 HT7 HF HY8
 go_wp2_with fail
 refine (HF8.out.yd.deeds (by have:=HF8.out.few; omega)).mono ?_
 rintro r w9 ⟨v9,rfl,hrow,hb9⟩
 obtain ⟨A9,cp9,rfl⟩:=zAM hrow
 have HZ:=zI2 (zAA HB4.out (HF8.out.yd.later hb9).h.below)
 have hat : ∃ b9,A9 = some ⟨b9,0,none⟩ ∧ AtDd w9 b9 (2 * 11) d2:=by
  rcases hrow.2 with ⟨hv,h0⟩ | ⟨g9,cap',cur,hv,_⟩
  ·omega
  ·cases hv
   exact ⟨g9,rfl,AtDd.row hrow (by rw [HV.out.1]; rfl)⟩
 obtain ⟨b9,rfl,hat⟩:=hat
 have c7:=hat.c7
 have c8:=hat.c8
 rw [HV.out.2.1] at c7
 rw [HV.out.2.2] at c8
 clear hrow hb9 hat
 rw [hdl]
 clear hdl
 go_wp2_with fail
 go_ret
 exact ⟨rfl,HZ.out⟩
end
section
open Go.RowKit
theorem zEj {T mode most : Int} {Q : CM → Prop} (h0 : ∀ (v : LM) (x : Int),v.base.k = 0 → (v.base.ck = 0 → Q { v.base with who:=v.base.who % T,ce:=topEnd mode v.base,v:=x }) ∧ (v.base.ck ≠ 0 → Q { v.base with who:=v.base.who % T,ce:=topEnd mode v.base })) (h1 : ∀ v : LM,v.base.k ≠ 0 → v.base.k ≠ 2 → Q { v.base with who:=v.base.who % T }) (h2 : ∀ v : LM,v.base.k = 2 → Q v.base) (V : List LM) : ∀ m ∈ (topS T mode most V).2.2,Q m:=by
 have key : ∀ (V : List LM) (st : Int × Int × List CM),(∀ m ∈ st.2.2,Q m) → ∀ m ∈ (V.foldl (topOne T mode most) st).2.2,Q m:=by
  intro V
  induction V with
  | nil=>exact fun st h=>h
  | cons v V ih =>
   intro st h
   rw [List.foldl_cons]
   refine ih _ ?_
   obtain ⟨c,p,l⟩:=st
   have more : ∀ x : CM,Q x → ∀ m ∈ l ++ [x],Q m:=fun x hx m hm=>by
    rcases List.mem_append.1 hm with hm | hm
    ·exact h m hm
    ·rw [List.mem_singleton.1 hm]
     exact hx
   by_cases hk : v.base.k = 0
   ·by_cases hc : c = most
    ·rw [zCS hk hc]
     exact h
    ·by_cases hck : v.base.ck = 0
     ·rw [zDG hk hc hck]
      exact more _ ((h0 v _ hk).1 hck)
     ·rw [zCv hk hc hck]
      exact more _ ((h0 v 0 hk).2 hck)
   ·rcases LM.base_rest hk with ⟨q,_⟩ | ⟨q,_⟩
    ·rw [zCe q]
     exact more _ (h1 v hk (by omega))
    ·rw [zCd q]
     exact more _ (h2 v q)
 exact key V (0,0,[]) (fun m hm=>by cases hm)
theorem topS_stack {T most : Int} (V : List LM) : ∀ m ∈ (topS T 0 most V).2.2,m.k = 0 → m.ce = 1:=by
 have e : ∀ v : LM,topEnd 0 v.base = 1:=fun v=>by
  unfold topEnd
  rw [if_pos (by decide),if_neg (by omega)]
 exact zEj (Q:=fun m=>m.k = 0 → m.ce = 1) (fun v x hk=>⟨fun _ _=>e v,fun _ _=>e v⟩) (fun v hk _ q=>absurd q hk) (fun v hk q=>by omega) V
theorem zDu {T mode most : Int} (V : List LM) : ∀ m ∈ (topS T mode most V).2.2,m.k = 2 → m.n ≤ 32768:=by
 have e : ∀ v : LM,v.base.k = 2 → v.base.n ≤ 32768:=fun v hk=>by
  rcases LM.base_rest (v:=v) (by omega) with ⟨q,_⟩ | ⟨_,q⟩
  ·omega
  ·rw [q]
   show 1 + v.n % 32768 ≤ 32768
   omega
 exact zEj (Q:=fun m=>m.k = 2 → m.n ≤ 32768) (fun v x hk=>⟨fun _ q=>absurd (show v.base.k = 2 from q) (by omega),fun _ q=>absurd (show v.base.k = 2 from q) (by omega)⟩) (fun v _ h2 q=>absurd q h2) (fun v hk _=>e v hk) V
structure AsksOk (l : List (Int × Int × Int × Int × Int)) : Prop where
 kind : ∀ a ∈ l,(a.2.1 = 0 ∨ a.2.1 = 1) ∧ (a.2.2.1 = 0 ∨ a.2.2.1 = 1)
 own : l.Pairwise (fun a b=>a.2.1 = 0 → b.2.1 = 0 → a.2.2.2.1 < b.2.2.2.1)
theorem TopOk.asks {B : YB} {N : Nat} {S : List CM} {Yf : Nat → Yd} {An : List Int} {T : Int} {st : Int × Int × List CM} {n : Nat} (h : TopOk T st n) (hS : st.2.2 = S) (hP : PTr B N S Yf An) : AsksOk ((Yf S.length).ds.map Dd.ask):=by
 obtain ⟨h1,h2⟩:=hP.deeds S.length (Nat.le_refl _)
 rw [List.take_length] at h1
 refine ⟨fun a ha=>?_,List.Pairwise.sublist h1 ?_⟩
 ·obtain ⟨d,hd,rfl⟩:=List.mem_map.1 ha
  exact h2 d hd
 ·rw [List.pairwise_map]
  have hown:=h.own
  rw [hS] at hown
  refine (List.Pairwise.sublist List.filter_sublist hown).imp_of_mem (fun {a b} ha hb hab k1 k2=>?_)
  have ka : a.k = 0:=of_decide_eq_true (List.mem_filter.1 ha).2
  have kb : b.k = 0:=of_decide_eq_true (List.mem_filter.1 hb).2
  exact hab ka k1 kb k2
theorem zIi {ds : List Dd} {i : Nat} {f : Dd → Dd} (hk : ∀ d,(f d).ask = d.ask) : (ds.modify i f).map Dd.ask = ds.map Dd.ask:=by
 refine List.ext_getElem? (fun j=>?_)
 rw [List.getElem?_map,List.getElem?_map]
 by_cases e : i = j
 ·subst e
  cases hd : ds[i]? with
  | none=>rw [List.getElem?_modify,hd]; rfl
  | some d=>rw [zBO hd]; exact congrArg some (hk d)
 ·rw [zBa e]
theorem zHk {Y : Yd} {P : Pl} {w i : Nat} {T : Wk} {z : Int} : (Y.step P w T i z).ds.map Dd.ask = Y.ds.map Dd.ask:=by
 show (if _ then Y.ds else Y.ds.modify i _).map Dd.ask = _
 split
 ·rfl
 ·have key : ∀ d : Dd,(d.over Y.moves (T.step P Y.C Y.now z)).ask = d.ask:=fun d=>by
   obtain ⟨s1,s2,s3,s4,s5,_,_⟩:=Dd.over_same d Y.moves (T.step P Y.C Y.now z)
   unfold Dd.ask
   rw [s1,s2,s3,s4,s5]
  exact zIi key
theorem zEd {B : YB} {N j s : Nat} {Y0 Y : Yd} (h : Tick B N Y0 j Y s) : Y.ds.map Dd.ask = Y0.ds.map Dd.ask:=by
 induction h with
 | zero=>rfl
 | skip h hn ih=>exact ih
 | step h T i z hk ha ih=>rw [← ih]; exact zHk
theorem zD7 {pl : Nat → Pl} {t n : Nat} {Y : Yd} (h : YOk pl t n Y) (hi : ∀ k,k < t → Y.ts[k]? = some none) {i : Nat} {d : Dd} (hd : Y.ds[i]? = some d) : 0 ≤ d.till:=by
 obtain ⟨⟨w,_,hw,g3⟩,q0,_,g6⟩:=h.deed i d hd
 by_cases e : d.till = -1
 ·obtain ⟨T,hT⟩:=g3 e
  rw [hi w hw] at hT
  cases hT
 ·have:=(g6 e).1
  omega
end
section
open Go.RowKit
theorem YOk.fitT {pl : Nat → Pl} {t n : Nat} {Y : Yd} (h : YOk pl t n Y) (ht : t ≤ 1000) (hn : n ≤ 1000000) {d : Dd} (hd : d ∈ Y.ds) : d.Fit:=by
 obtain ⟨i,hi⟩:=List.mem_iff_getElem?.1 hd
 obtain ⟨⟨w,hw,hwt,_⟩,f0,f1,f2⟩:=h.deed i d hi
 have hm:=h.most
 refine ⟨WalkArith.wf_i64 (by omega),by omega,by omega, ?_, ?_⟩
 ·by_cases e : d.till = -1
  ·omega
  ·have:=(f2 e).1
   omega
 ·by_cases e : d.till = -1
  ·omega
  ·have:=(f2 e).2
   omega
theorem zI1 {w : World} {base cap : Nat} {A : Option Addr} {L : List Dd} (h : w.ownsRow base 77 11 (.slice A L.length cap) L.length (flatD L)) (hF : ∀ d ∈ L,d.Fit) : ∃ tb,IsDds w A L.length cap tb 0 L:=by
 have hc:=zCV h
 rcases h.2 with ⟨hv,h0⟩ | ⟨g,cap',cur,hv,_,hh,_⟩
 ·have hl : L = []:=List.eq_nil_of_length_eq_zero h0
  subst hl
  exact ⟨0,rfl,hc,fun hp=>absurd hp (Nat.lt_irrefl _),fun i d hd=>by cases hd⟩
 ·cases hv
  refine ⟨g,rfl,hc,fun _=>⟨rfl,(Array.getElem?_eq_some_iff.1 hh).1⟩,fun i d hd=>⟨?_,hF d (List.mem_of_getElem? hd)⟩⟩
  rw [Nat.zero_add]
  exact AtDd.row h hd
theorem YdL.deedsT {W w : World} {l : List Thing} {B : YB} {N n : Nat} {Y : Yd} {J : Nat → Nat} (h : YdL W w l B N Y J n) (hn : n ≤ 1000000) (hT : B.T ≤ 1000) : Calls Tryz.prog 21 #[pt B.yb] w fun r w' => ∃ A cp tb,r = .returned (.slice A Y.ds.length cp) ∧ Below w.heap.size w w' ∧ IsDds w' A Y.ds.length cp tb 0 Y.ds:=by
 refine (h.deeds hn).mono ?_
 rintro r w' ⟨v,rfl,hrow,hb⟩
 obtain ⟨A,cp,rfl⟩:=zAM hrow
 obtain ⟨tb,hd⟩:=zI1 hrow (fun d hd=>h.ok.fitT hT hn hd)
 exact ⟨A,cp,tb,rfl,hb,hd⟩
theorem IsDds.less {w w' : World} {a : Option Addr} {len cap tb off : Nat} {l : List Dd} (h : IsDds w a len cap tb off l) (e : Below w.heap.size w w') : IsDds w' a len cap tb off l:=h.later e (fun hp=>(h.2.2.1 hp).2)
theorem IsDds.one' {w : World} {a : Option Addr} {len cap tb off : Nat} {l : List Dd} (h : IsDds w a len cap tb off l) {i : Nat} {d : Dd} (hd : l[i]? = some d) : a = some ⟨tb,off,none⟩ ∧ tb < w.heap.size ∧ AtDd w tb (off + i * 11) d:=by
 have hi:=(List.getElem?_eq_some_iff.1 hd).1
 obtain ⟨h1,h2⟩:=h.2.2.1 (by rw [← h.1]; omega)
 exact ⟨h1,h2,(h.2.2.2 i d hd).1⟩
theorem IsDds.one0 {w : World} {a : Option Addr} {len cap tb : Nat} {l : List Dd} (h : IsDds w a len cap tb 0 l) {i : Nat} {d : Dd} (hd : l[i]? = some d) : a = some ⟨tb,0,none⟩ ∧ tb < w.heap.size ∧ AtDd w tb (i * 11) d:=by
 have:=h.one' hd
 rw [Nat.zero_add] at this
 exact this
end
section
open Go.RowKit
structure AtEv (w : World) (b o : Nat) (e : Ev) : Prop where
 c0 : w.cell? ⟨b,o,none⟩ = some (.int .i64 e.who)
 c1 : w.cell? ⟨b,o + 1,none⟩ = some (.int .i64 e.op)
 c2 : w.cell? ⟨b,o + 2,none⟩ = some (.int .i64 e.cell)
 c3 : w.cell? ⟨b,o + 3,none⟩ = some (.int .u64 e.old)
 c4 : w.cell? ⟨b,o + 4,none⟩ = some (.int .u64 e.new)
 c5 : w.cell? ⟨b,o + 5,none⟩ = some (.bool e.ok)
structure Ev.Fit (e : Ev) : Prop where
 o0 : 0 ≤ e.old
 o1 : e.old ≤ 18446744073709551615
 n0 : 0 ≤ e.new
 n1 : e.new ≤ 18446744073709551615
 c : (Lit.int .i64 e.cell).wf = true
def IsEvs (w : World) (A : Option Addr) (n cap tb off : Nat) (L : List Ev) : Prop :=
 L.length = n ∧ n ≤ cap ∧ (0 < n → A = some ⟨tb,off,none⟩ ∧ tb < w.heap.size) ∧ ∀ i e,L[i]? = some e → AtEv w tb (off + i * 6) e ∧ e.Fit
abbrev Ev.v (e : Ev) : Value:=.agg #[.int .i64 e.who,.int .i64 e.op,.int .i64 e.cell,.int .u64 e.old,.int .u64 e.new,.bool e.ok]
abbrev Ev.obj (e : Ev) (T : TypeId) : Obj:=.cells #[.int .i64 e.who,.int .i64 e.op,.int .i64 e.cell,.int .u64 e.old,.int .u64 e.new,.bool e.ok] T
section
variable {w w' : World} {A : Option Addr} {n cap tb off : Nat} {L : List Ev}
theorem IsEvs.later (h : IsEvs w A n cap tb off L) (e : Below w.heap.size w w') : IsEvs w' A n cap tb off L:=by
 obtain ⟨h1,h2,h3,h4⟩:=h
 refine ⟨h1,h2,fun hn=>⟨(h3 hn).1,Nat.lt_of_lt_of_le (h3 hn).2 e.size⟩,fun i x hx=>⟨?_,(h4 i x hx).2⟩⟩
 have hn : 0 < n:=by have:=(List.getElem?_eq_some_iff.1 hx).1; omega
 have k : ∀ j,w'.cell? ⟨tb,j,none⟩ = w.cell? ⟨tb,j,none⟩:=fun j=>e.cell (p:=⟨tb,j,none⟩) (h3 hn).2
 obtain ⟨c0,c1,c2,c3,c4,c5⟩:=(h4 i x hx).1
 exact ⟨(k _).trans c0,(k _).trans c1,(k _).trans c2,(k _).trans c3,(k _).trans c4,(k _).trans c5⟩
end
end
section
open Go.RowKit
theorem zEf : ∀ {L : List Ev} {i j : Nat} {e : Ev},L[i]? = some e → j < 6 → (flatE L)[i * 6 + j]? = e.cells[j]?
 | [],i,j,e,h,_=>by simp at h
 | x :: L,0,j,e,h,hj=>by
  cases h
  have hl : x.cells.length = 6:=rfl
  rw [flatE,Nat.zero_mul,Nat.zero_add,List.getElem?_append_left (by omega)]
 | x :: L,i + 1,j,e,h,hj=>by
  have hl : x.cells.length = 6:=rfl
  rw [flatE,List.getElem?_append_right (by omega),show (i + 1) * 6 + j - x.cells.length = i * 6 + j by omega]
  exact zEf (by simpa using h) hj
section
variable {w w' : World} {A : Option Addr} {n cap tb off : Nat} {L : List Ev}
theorem zDd {base : Nat} (h : w.ownsRow base 101 6 (.slice A n cap) n (flatE L)) (hn : L.length = n) (hf : ∀ e ∈ L,e.Fit) : ∃ tb,IsEvs w A n cap tb 0 L:=by
 subst hn
 rcases h.2 with ⟨hv,h0⟩ | ⟨g,cap',cur,hv,hb,hh,hc,_⟩
 ·clear hv
  have hl : L = []:=List.eq_nil_of_length_eq_zero h0
  subst hl
  exact ⟨0,rfl,Nat.zero_le _,fun hp=>absurd hp (by simp),fun i e he=>by simp at he⟩
 ·cases hv
  refine ⟨g,rfl,hc,fun _=>⟨rfl,(h.lt g rfl).2⟩,fun i e he=>⟨?_,hf e (List.mem_of_getElem? he)⟩⟩
  have hi:=(List.getElem?_eq_some_iff.1 he).1
  have k : ∀ r u,r < 6 → e.cells[r]? = some u → w.cell? ⟨g,0 + i * 6 + r,none⟩ = some u:=fun r u hr hu=>by
   rw [Nat.zero_add,h.cellAt _ (by omega),zEf he hr,hu]
  exact ⟨k 0 _ (by decide) rfl,k 1 _ (by decide) rfl,k 2 _ (by decide) rfl,k 3 _ (by decide) rfl,k 4 _ (by decide) rfl,k 5 _ (by decide) rfl⟩
end
end
section
open Go.RowKit
theorem zEv {pl : Nat → Pl} {t n : Nat} {Y Y' : Yd} (h : ∀ e ∈ Y.L,e.Fit) (ho : YOk pl t n Y) (hm : YMv pl Y Y') (hl : Y.C.length ≤ 10000) (hf : ∀ j,0 ≤ Y.C.getD j 0 ∧ Y.C.getD j 0 ≤ 18446744073709551615) (hf' : ∀ j,0 ≤ Y'.C.getD j 0 ∧ Y'.C.getD j 0 ≤ 18446744073709551615) : ∀ e ∈ Y'.L,e.Fit:=by
 obtain ⟨w,E,hN,hL,_⟩:=YMv.noted ho hm
 rw [hL]
 intro e he
 rcases List.mem_append.1 he with he | he
 ·exact h e he
 ·rcases hN with ⟨hE,_⟩ | ⟨x,hE,h1⟩
  ·rw [hE] at he
   cases he
  ·rw [hE] at he
   obtain rfl:=List.mem_singleton.1 he
   have hc0:=h1.c0
   have hc1:=h1.c1
   have ho1:=hf e.cell.toNat
   have hn1:=hf' e.cell.toNat
   rw [← h1.old] at ho1
   rw [h1.cells,zAP _ (by omega)] at hn1
   exact ⟨ho1.1,ho1.2,hn1.1,hn1.2,WalkArith.wf_i64 (by omega)⟩
end
section
open Go.RowKit
open Go.RowKit Go.Maps
structure KTy (P : Program) (t kt et : TypeId) (qe : IntKind) {κ : Type} (kv : κ → Value) (ok : κ → Prop) : Prop where
 ht : P.underlying t = some (.map kt et)
 hK : Keyed P kt
 inj : ∀ {a b : κ},kv a = kv b → a = b
 key : ∀ {k : κ},ok k → ∃ kl,keyOf P kt (kv k) = some kl
 he : P.underlying et = some (.int qe)
 hz : ∀ w,(zeroValue et).run P w = .ok (.int qe 0) w
def KMap (P : Program) (kt et : TypeId) (qe : IntKind) {κ : Type} (kv : κ → Value) (ok : κ → Prop) (w : World) (b n : Nat) (F : κ → Int) (M : κ → Bool) : Prop :=
 ∃ D : DataW Unit,w.ownsMap P kt (plainElem P et) b n D ∧ ∀ k kl,ok k → keyOf P kt (kv k) = some kl → D.atKey kl (.lit (.int qe 0)) = .lit (.int qe (F k)) ∧ Maps.has D kl = M k
section
variable {P : Program} {t kt et : TypeId} {qe : IntKind} {κ : Type} {kv : κ → Value} {ok : κ → Prop} {w w' : World} {b n : Nat} {F : κ → Int} {M : κ → Bool}
theorem zED {H : Type} {R : Value → Option (DataW H × List MemPlace)} {D : DataW H} {B : Nat} (h : w.ownsMap P kt R b n D) (e : Below B w w') (hb : b < B) : w'.ownsMap P kt R b n D:=by
 obtain ⟨es,clock,h1,h2⟩:=h
 exact ⟨es,clock,(e.block b hb).trans h1,h2⟩
theorem KMap.lt (h : KMap P kt et qe kv ok w b n F M) : b < w.heap.size:=by
 obtain ⟨D,h,_⟩:=h
 exact h.lt
theorem KMap.below {B : Nat} (h : KMap P kt et qe kv ok w b n F M) (e : Below B w w') (hb : b < B) : KMap P kt et qe kv ok w' b n F M:=by
 obtain ⟨D,h,k⟩:=h
 exact ⟨D,zED h e hb,k⟩
theorem KMap.later (h : KMap P kt et qe kv ok w b n F M) (e : Below w.heap.size w w') : KMap P kt et qe kv ok w' b n F M:=h.below e h.lt
theorem KMap.drew (h : KMap P kt et qe kv ok w b n F M) : KMap P kt et qe kv ok w.drew b n F M:=h
theorem KMap.mono (h : KMap P kt et qe kv ok w b n F M) {n' : Nat} (hn : n ≤ n') : KMap P kt et qe kv ok w b n' F M:=by
 obtain ⟨D,h,k⟩:=h
 exact ⟨D,h.mono hn,k⟩
theorem KMap.as {F' : κ → Int} {M' : κ → Bool} (h : KMap P kt et qe kv ok w b n F M) (hF : ∀ k,ok k → F k = F' k) (hM : ∀ k,ok k → M k = M' k) : KMap P kt et qe kv ok w b n F' M':=by
 obtain ⟨D,h,k⟩:=h
 exact ⟨D,h,fun x l hx hl=>by rw [← hF x hx, ← hM x hx]; exact k x l hx hl⟩
theorem KMap.made (w : World) (P : Program) (kt et : TypeId) (qe : IntKind) {κ : Type} (kv : κ → Value) (ok : κ → Prop) : KMap P kt et qe kv ok (w.alloc (.map #[] 0)) w.heap.size 0 (fun _=>0) (fun _=>false) :=
 ⟨.map [],World.ownsMap_made _ _ _ _,fun _ _ _ _=>⟨rfl,rfl⟩⟩
theorem KMap.store (ty : KTy P t kt et qe kv ok) (h : KMap P kt et qe kv ok w b n F M) (hn : n < maxLen) {k : κ} {c : Int} (hk : ok k) (hc : (Lit.int qe c).wf = true) (F' : κ → Int) (M' : κ → Bool)
  (hF : F' k = c) (hM : M' k = true) (hF' : ∀ z,z ≠ k → F' z = F z) (hM' : ∀ z,z ≠ k → M' z = M z) :
  ∃ w',(Instr.mapUpdate t (.map (some b)) (kv k) (.int qe c)).run P w = .ok () w' ∧ KMap P kt et qe kv ok w' b (n + 1) F' M' ∧ w.grownBy w' (some b):=by
 obtain ⟨D,h,hD⟩:=h
 obtain ⟨l0,key⟩:=ty.key hk
 obtain ⟨w',hr,h1,h2⟩:=h.update ty.hK ty.ht hn key (plainElem_int ty.he hc)
 refine ⟨w',hr,⟨_,h1,fun z lz hz hlz=>?_⟩,h2⟩
 by_cases e : lz = l0
 ·obtain rfl : z = k:=ty.inj (ty.hK.inj hlz (by rw [e]; exact key))
  rw [e,atKey_put_same h.isMap (ty.hK.key key),has_put_same h.isMap (ty.hK.key key),hF,hM]
  exact ⟨rfl,rfl⟩
 ·have hne : z ≠ k:=fun hh=>e (by
   subst hh
   rw [key] at hlz
   cases hlz
   rfl)
  rw [atKey_put_other e,has_put_other e,hF' z hne,hM' z hne]
  exact hD z lz hz hlz
variable {ops : Array Oper} {rest : List Oper} {o : Oper} {a : Act} {Q : Exit → Act → World → Prop}
theorem zBv (m x : Operand) (t : TypeId) (hop : o.op = Op.lookup t m x false) (ty : KTy P t kt et qe kv ok) (hm : a.eval m = .map (some b)) (h : KMap P kt et qe kv ok w b n F M) (k : κ) (c : Int) (hx : a.eval x = kv k) (hk : ok k) (hc : F k = c) : (execOp a.eval o).run P w = .ok (.value (.int qe c)) w:=by
 obtain ⟨D,h,hD⟩:=h
 obtain ⟨l0,key⟩:=ty.key hk
 obtain ⟨c',hrun,hat,hwc⟩:=h.lookup_int ty.hK ty.ht ty.he (ty.hz w) key
 rw [(hD k l0 hk key).1,hc] at hat
 cases hat
 simp [execOp,hop,hm,hx,hrun,Result.andThen]
theorem zBT (m x : Operand) (t : TypeId) (hop : o.op = Op.lookup t m x true) (ty : KTy P t kt et qe kv ok) (hm : a.eval m = .map (some b)) (h : KMap P kt et qe kv ok w b n F M) (k : κ) (c : Int) (y : Bool) (hx : a.eval x = kv k) (hk : ok k) (hc : F k = c) (hy : M k = y) : (execOp a.eval o).run P w = .ok (.value (.tuple #[.int qe c,.bool y])) w:=by
 obtain ⟨D,h,hD⟩:=h
 obtain ⟨l0,key⟩:=ty.key hk
 obtain ⟨v,ps,hrun,hv⟩:=h.look_ok ty.hK ty.ht (ty.hz w) (plainElem_int (H:=Unit) ty.he (by cases qe <;> decide)) key
 obtain ⟨c',rfl,hat,hwc⟩:=plainElem_int_inv ty.he hv
 have hat2:=congrArg Prod.fst hat
 simp only at hat2
 rw [(hD k l0 hk key).1,hc] at hat2
 cases hat2
 rw [(hD k l0 hk key).2,hy] at hrun
 simp [execOp,hop,hm,hx,hrun,Result.andThen]
theorem zF4 {K : Act → World → Prop} (m x v : Operand) (t : TypeId) (hop : o.op = Op.mapUpdate t m x v) (ty : KTy P t kt et qe kv ok) (hm : a.eval m = .map (some b)) (h : KMap P kt et qe kv ok w b n F M) (hn : n < maxLen) (k : κ) (c : Int) (hx : a.eval x = kv k) (hv : a.eval v = .int qe c)
  (hk : ok k) (hc : (Lit.int qe c).wf = true) (F' : κ → Int) (M' : κ → Bool) (hF : F' k = c) (hM : M' k = true) (hF' : ∀ z,z ≠ k → F' z = F z) (hM' : ∀ z,z ≠ k → M' z = M z)
  (hK : ∀ w',KMap P kt et qe kv ok w' b (n + 1) F' M' → w.grownBy w' (some b) → K (a.put o.dst undef) w') : Oper.wp P o a w K Q:=by
 obtain ⟨w',hr,h1,h2⟩:=h.store ty hn hk hc F' M' hF hM hF' hM'
 unfold Oper.wp
 simp [execOp,hop,hm,hx,hv,hr,Result.andThen]
 exact hK w' h1 h2
end
end
section
open Go.RowKit
open Go.RowKit Go.Maps
abbrev lookV (k : Int × Int) : Value:=.agg #[.int .i64 k.1,.int .i64 k.2]
theorem zBE : KTy Tryz.prog 112 3 30 .u64 (fun k : Int=>.int .i64 k) (fun k=>(Lit.int .i64 k).wf = true) :=
 ⟨Tryz.underlying112,int_keyed Tryz.underlying3,fun h=>by cases h; rfl,fun h=>⟨_,keyOf_int_mk Tryz.underlying3 h⟩,Tryz.underlying30,Tryz.zeroValue30⟩
theorem zHv : WideMaps.KeyLaw Tryz.prog 154 :=
 deep_law_gate (by kernel_rfl) (of_decide_eq_true (by kernel_rfl)) (of_decide_eq_true (by kernel_rfl)) (by kernel_rfl) (by kernel_rfl)
theorem zHg {a b : Int} (ha : (Lit.int .i64 a).wf = true) (hb : (Lit.int .i64 b).wf = true) : ∃ kl,keyOf Tryz.prog 154 (lookV (a,b)) = some kl:=by
 obtain ⟨d,hd⟩ : ∃ d,Tryz.prog.types.size = d + 1:=⟨Tryz.prog.types.size - 1,by kernel_rfl⟩
 have h1 : Tryz.prog.keyType 154 = true:=by kernel_rfl
 have c1 : Tryz.prog.cellsOf 154 = 2:=by kernel_rfl
 have c2 : Tryz.prog.cellsOf 3 = 1:=by kernel_rfl
 have h2 : (lookV (a,b)).formed Tryz.prog 154 = true:=by simp [Value.formed,Tryz.underlying154,c1]
 have h3 : Tryz.prog.keyLits (Tryz.prog.types.size + 1) 154 [.int .i64 a,.int .i64 b] = some [.int .i64 a,.int .i64 b]:=by
  rw [hd]
  simp [Program.keyLits,Tryz.underlying154,Tryz.underlying3,c1,c2,ha,hb]
 have h4 : (lookV (a,b)).cells.toList = [.int .i64 a,.int .i64 b]:=by simp [Value.cells]
 refine ⟨.string (keyBytes [.int .i64 a,.int .i64 b]), ?_⟩
 unfold keyOf
 simp only [Tryz.underlying154,h1,h2,h4,h3,Bool.and_self,if_true,Option.map_some]
def lookOk (N : Nat) (k : Int × Int) : Prop:=(Lit.int .i64 k.1).wf = true ∧ 0 ≤ k.2 ∧ k.2 < N ∧ (N : Int) ≤ 4096
theorem zCF {a : Int} (h0 : 0 ≤ a) (h1 : a ≤ 4096) : (Lit.int .i64 a).wf = true:=WalkArith.wf_i64 (by omega)
theorem zCj (N : Nat) : KTy Tryz.prog 113 154 3 .i64 lookV (lookOk N) :=
 ⟨Tryz.underlying113,Keyed.of_law zHv,fun {a b} h=>by
  obtain ⟨a1,a2⟩:=a
  obtain ⟨b1,b2⟩:=b
  cases h
  rfl,fun {k} h=>zHg h.1 (zCF h.2.1 (by have:=h.2.2.1; have:=h.2.2.2; omega)),Tryz.underlying3,Tryz.zeroValue3⟩
def genO : Option Int → Int
 | some r=>r / 8 % 8192
 | none=>0
abbrev CMap (w : World) (b n : Nat) (f : Int → Int) : Prop := ∃ M,KMap Tryz.prog 3 30 .u64 (fun k : Int=>.int .i64 k) (fun k=>(Lit.int .i64 k).wf = true) w b n f M
abbrev GMap (N : Nat) (w : World) (b n : Nat) (g : Int → Int → Option Int) : Prop:=KMap Tryz.prog 154 3 .i64 lookV (lookOk N) w b n (fun k=>genO (g k.1 k.2)) (fun k=>(g k.1 k.2).isSome)
abbrev watchL (t s so d : Int) (bc bg : Nat) : List Value:=[i64 t,i64 s,i64 so,i64 d,.map (some bc),.map (some bg)]
structure WAt (w : World) (wb bc bg : Nat) (t s so d : Int) (N n : Nat) (f : Int → Int) (g : Int → Int → Option Int) : Prop where
 lay : Lay t s N
 obj : IsObj w wb (watchL t s so d bc bg)
 cells : CMap w bc n f
 gens : GMap N w bg n g
 fit : ∀ c,0 ≤ f c ∧ f c ≤ 18446744073709551615
 n1 : n ≤ 100000
 wc : wb ≠ bc
 wg : wb ≠ bg
 cg : bc ≠ bg
section
variable {w w' : World} {wb bc bg : Nat} {t s so d : Int} {N n : Nat} {f : Int → Int} {g : Int → Int → Option Int}
theorem WAt.later (h : WAt w wb bc bg t s so d N n f g) (e : Below w.heap.size w w') : WAt w' wb bc bg t s so d N n f g :=
 ⟨h.lay,h.obj.later e,by obtain ⟨M,hm⟩:=h.cells; exact ⟨M,hm.later e⟩,h.gens.later e,h.fit,h.n1,h.wc,h.wg,h.cg⟩
end
end
section
open Go.RowKit
section
variable {w : World} {wb bc bg : Nat} {t s so d : Int} {N n : Nat} {f : Int → Int} {g : Int → Int → Option Int} {e : Ev}
theorem zFv (h : WAt w wb bc bg t s so d N n f g) (hf : e.Fit) (j : Int) (b : Bool) (hb : b = true ↔ MayN so j e) (hway : so = 0 ∧ j ≠ 0) :
  Calls Tryz.prog 88 #[pt wb,e.v,i64 j] w fun r w'=>r = .returned (.bool b) ∧ Below w.heap.size w w':=by
 obtain ⟨gs,gj⟩:=hway
 obtain rfl : b = false:=by
  cases b with
  | false=>rfl
  | true=>exact absurd (hb.1 rfl) (by unfold MayN inc64; omega)
 have s0x : (so == 0) = true:=by simp [gs]
 have s1x : (so == 1) = false:=by simp [gs]
 have s2x : (so == 2) = false:=by simp [gs]
 have j0 : (j == 0) = false:=beq_false_of_ne gj
 clear hb gj gs
 have hwb:=h.obj.lt
 obtain ⟨q0,q1,q2,q3,q4,q5⟩ : _ ∧ _ ∧ _ ∧ _ ∧ _ ∧ _:=⟨h.obj.at' 0 _ rfl,h.obj.at' 1 _ rfl,h.obj.at' 2 _ rfl,h.obj.at' 3 _ rfl,h.obj.at' 4 _ rfl,h.obj.at' 5 _ rfl⟩
 clear h hf
 go_enter Tryz.func88,Tryz.ntmps88
 go_wp2_with fail
 go_ret
 exact ⟨rfl,zAB (Below.refl _ _) _⟩
theorem zGy (h : WAt w wb bc bg t s so d N n f g) (hf : e.Fit) (j : Int) (b : Bool) (hb : b = true ↔ MayN so j e) (hway : so = 0 ∧ j = 0 ∧ e.op ≠ 3) :
  Calls Tryz.prog 88 #[pt wb,e.v,i64 j] w fun r w'=>r = .returned (.bool b) ∧ Below w.heap.size w w':=by
 obtain ⟨gs,gj,gn3⟩:=hway
 obtain rfl : b = false:=by
  cases b with
  | false=>rfl
  | true=>exact absurd (hb.1 rfl) (by unfold MayN inc64; omega)
 have s0x : (so == 0) = true:=by simp [gs]
 have s1x : (so == 1) = false:=by simp [gs]
 have s2x : (so == 2) = false:=by simp [gs]
 have j0 : (j == 0) = true:=by simp [gj]
 obtain ⟨zz0,z0⟩ : ∃ z,(e.op == 0) = z:=⟨_,rfl⟩
 obtain ⟨zz1,z1⟩ : ∃ z,(e.op == 1) = z:=⟨_,rfl⟩
 obtain ⟨zz2,z2⟩ : ∃ z,(e.op == 2) = z:=⟨_,rfl⟩
 have z3 : (e.op == 3) = false:=beq_false_of_ne gn3
 clear hb gj gn3 gs
 have hwb:=h.obj.lt
 obtain ⟨q0,q1,q2,q3,q4,q5⟩ : _ ∧ _ ∧ _ ∧ _ ∧ _ ∧ _:=⟨h.obj.at' 0 _ rfl,h.obj.at' 1 _ rfl,h.obj.at' 2 _ rfl,h.obj.at' 3 _ rfl,h.obj.at' 4 _ rfl,h.obj.at' 5 _ rfl⟩
 clear h hf
 go_enter Tryz.func88,Tryz.ntmps88
 go_wp2_with fail
 go_ret
 exact ⟨rfl,zAB (Below.refl _ _) _⟩
theorem zF0 (h : WAt w wb bc bg t s so d N n f g) (hf : e.Fit) (j : Int) (b : Bool) (hb : b = true ↔ MayN so j e) (hway : so = 0 ∧ j = 0 ∧ e.op = 3 ∧ e.new ≠ IntKind.u64.wrap (e.old + 1)) :
  Calls Tryz.prog 88 #[pt wb,e.v,i64 j] w fun r w'=>r = .returned (.bool b) ∧ Below w.heap.size w w':=by
 obtain ⟨gs,gj,gop,gx⟩:=hway
 obtain rfl : b = false:=by
  cases b with
  | false=>rfl
  | true=>exact absurd (hb.1 rfl) (by unfold MayN inc64; omega)
 have s0x : (so == 0) = true:=by simp [gs]
 have s1x : (so == 1) = false:=by simp [gs]
 have s2x : (so == 2) = false:=by simp [gs]
 have j0 : (j == 0) = true:=by simp [gj]
 have z0 : (e.op == 0) = false:=by simp [gop]
 have z1 : (e.op == 1) = false:=by simp [gop]
 have z2 : (e.op == 2) = false:=by simp [gop]
 have z3 : (e.op == 3) = true:=by simp [gop]
 have n0 : (e.new == IntKind.u64.wrap (e.old + 1)) = false:=beq_false_of_ne gx
 clear hb gj gop gx gs
 have hwb:=h.obj.lt
 obtain ⟨q0,q1,q2,q3,q4,q5⟩ : _ ∧ _ ∧ _ ∧ _ ∧ _ ∧ _:=⟨h.obj.at' 0 _ rfl,h.obj.at' 1 _ rfl,h.obj.at' 2 _ rfl,h.obj.at' 3 _ rfl,h.obj.at' 4 _ rfl,h.obj.at' 5 _ rfl⟩
 clear h hf
 go_enter Tryz.func88,Tryz.ntmps88
 go_wp2_with fail
 go_ret
 exact ⟨rfl,zAB (Below.refl _ _) _⟩
theorem zG9 (h : WAt w wb bc bg t s so d N n f g) (hf : e.Fit) (j : Int) (b : Bool) (hb : b = true ↔ MayN so j e) (hway : so = 0 ∧ j = 0 ∧ e.op = 3 ∧ e.new = IntKind.u64.wrap (e.old + 1)) :
  Calls Tryz.prog 88 #[pt wb,e.v,i64 j] w fun r w'=>r = .returned (.bool b) ∧ Below w.heap.size w w':=by
 obtain ⟨gs,gj,gop,gx⟩:=hway
 obtain rfl : b = true:=hb.2 (.inl ⟨gs,gj,gop,gx⟩)
 have s0x : (so == 0) = true:=by simp [gs]
 have s1x : (so == 1) = false:=by simp [gs]
 have s2x : (so == 2) = false:=by simp [gs]
 have j0 : (j == 0) = true:=by simp [gj]
 have z0 : (e.op == 0) = false:=by simp [gop]
 have z1 : (e.op == 1) = false:=by simp [gop]
 have z2 : (e.op == 2) = false:=by simp [gop]
 have z3 : (e.op == 3) = true:=by simp [gop]
 have n0 : (e.new == IntKind.u64.wrap (e.old + 1)) = true:=by simp [gx]
 clear hb gj gop gx gs
 have hwb:=h.obj.lt
 obtain ⟨q0,q1,q2,q3,q4,q5⟩ : _ ∧ _ ∧ _ ∧ _ ∧ _ ∧ _:=⟨h.obj.at' 0 _ rfl,h.obj.at' 1 _ rfl,h.obj.at' 2 _ rfl,h.obj.at' 3 _ rfl,h.obj.at' 4 _ rfl,h.obj.at' 5 _ rfl⟩
 clear h hf
 go_enter Tryz.func88,Tryz.ntmps88
 go_wp2_with fail
 go_ret
 exact ⟨rfl,zAB (Below.refl _ _) _⟩
theorem zGn (h : WAt w wb bc bg t s so d N n f g) (hf : e.Fit) (j : Int) (b : Bool) (hb : b = true ↔ MayN so j e) (hway : so = 1 ∧ e.op = 0) :
  Calls Tryz.prog 88 #[pt wb,e.v,i64 j] w fun r w'=>r = .returned (.bool b) ∧ Below w.heap.size w w':=by
 obtain ⟨gs,gop⟩:=hway
 obtain rfl : b = true:=hb.2 (.inr (.inl ⟨gs,.inl gop⟩))
 have s0x : (so == 0) = false:=by simp [gs]
 have s1x : (so == 1) = true:=by simp [gs]
 have s2x : (so == 2) = false:=by simp [gs]
 have z0 : (e.op == 0) = true:=by simp [gop]
 have z1 : (e.op == 1) = false:=by simp [gop]
 have z2 : (e.op == 2) = false:=by simp [gop]
 have z3 : (e.op == 3) = false:=by simp [gop]
 clear hb gop gs
 have hwb:=h.obj.lt
 obtain ⟨q0,q1,q2,q3,q4,q5⟩ : _ ∧ _ ∧ _ ∧ _ ∧ _ ∧ _:=⟨h.obj.at' 0 _ rfl,h.obj.at' 1 _ rfl,h.obj.at' 2 _ rfl,h.obj.at' 3 _ rfl,h.obj.at' 4 _ rfl,h.obj.at' 5 _ rfl⟩
 clear h hf
 go_enter Tryz.func88,Tryz.ntmps88
 go_wp2_with fail
 go_ret
 exact ⟨rfl,zAB (Below.refl _ _) _⟩
theorem zG2 (h : WAt w wb bc bg t s so d N n f g) (hf : e.Fit) (j : Int) (b : Bool) (hb : b = true ↔ MayN so j e) (hway : so = 1 ∧ e.op ≠ 0 ∧ e.op ≠ 1) :
  Calls Tryz.prog 88 #[pt wb,e.v,i64 j] w fun r w'=>r = .returned (.bool b) ∧ Below w.heap.size w w':=by
 obtain ⟨gs,gn0,gn1⟩:=hway
 obtain rfl : b = false:=by
  cases b with
  | false=>rfl
  | true=>exact absurd (hb.1 rfl) (by unfold MayN inc64; omega)
 have s0x : (so == 0) = false:=by simp [gs]
 have s1x : (so == 1) = true:=by simp [gs]
 have s2x : (so == 2) = false:=by simp [gs]
 have z0 : (e.op == 0) = false:=beq_false_of_ne gn0
 have z1 : (e.op == 1) = false:=beq_false_of_ne gn1
 obtain ⟨zz2,z2⟩ : ∃ z,(e.op == 2) = z:=⟨_,rfl⟩
 obtain ⟨zz3,z3⟩ : ∃ z,(e.op == 3) = z:=⟨_,rfl⟩
 clear hb gn0 gn1 gs
 have hwb:=h.obj.lt
 obtain ⟨q0,q1,q2,q3,q4,q5⟩ : _ ∧ _ ∧ _ ∧ _ ∧ _ ∧ _:=⟨h.obj.at' 0 _ rfl,h.obj.at' 1 _ rfl,h.obj.at' 2 _ rfl,h.obj.at' 3 _ rfl,h.obj.at' 4 _ rfl,h.obj.at' 5 _ rfl⟩
 clear h hf
 go_enter Tryz.func88,Tryz.ntmps88
 go_wp2_with fail
 go_ret
 exact ⟨rfl,zAB (Below.refl _ _) _⟩
theorem zGG (h : WAt w wb bc bg t s so d N n f g) (hf : e.Fit) (j : Int) (b : Bool) (hb : b = true ↔ MayN so j e) (hway : so = 1 ∧ e.op = 1 ∧ e.who ≠ j) :
  Calls Tryz.prog 88 #[pt wb,e.v,i64 j] w fun r w'=>r = .returned (.bool b) ∧ Below w.heap.size w w':=by
 obtain ⟨gs,gop,gw⟩:=hway
 obtain rfl : b = false:=by
  cases b with
  | false=>rfl
  | true=>exact absurd (hb.1 rfl) (by unfold MayN inc64; omega)
 have s0x : (so == 0) = false:=by simp [gs]
 have s1x : (so == 1) = true:=by simp [gs]
 have s2x : (so == 2) = false:=by simp [gs]
 have z0 : (e.op == 0) = false:=by simp [gop]
 have z1 : (e.op == 1) = true:=by simp [gop]
 have z2 : (e.op == 2) = false:=by simp [gop]
 have z3 : (e.op == 3) = false:=by simp [gop]
 have w0 : (e.who == j) = false:=beq_false_of_ne gw
 clear hb gop gw gs
 have hwb:=h.obj.lt
 obtain ⟨q0,q1,q2,q3,q4,q5⟩ : _ ∧ _ ∧ _ ∧ _ ∧ _ ∧ _:=⟨h.obj.at' 0 _ rfl,h.obj.at' 1 _ rfl,h.obj.at' 2 _ rfl,h.obj.at' 3 _ rfl,h.obj.at' 4 _ rfl,h.obj.at' 5 _ rfl⟩
 clear h hf
 go_enter Tryz.func88,Tryz.ntmps88
 go_wp2_with fail
 go_ret
 exact ⟨rfl,zAB (Below.refl _ _) _⟩
theorem zF3 (h : WAt w wb bc bg t s so d N n f g) (hf : e.Fit) (j : Int) (b : Bool) (hb : b = true ↔ MayN so j e) (hway : so = 1 ∧ e.op = 1 ∧ e.who = j ∧ ¬ e.old < e.new) :
  Calls Tryz.prog 88 #[pt wb,e.v,i64 j] w fun r w'=>r = .returned (.bool b) ∧ Below w.heap.size w w':=by
 obtain ⟨gs,gop,gw,gx⟩:=hway
 obtain rfl : b = false:=by
  cases b with
  | false=>rfl
  | true=>exact absurd (hb.1 rfl) (by unfold MayN inc64; omega)
 have s0x : (so == 0) = false:=by simp [gs]
 have s1x : (so == 1) = true:=by simp [gs]
 have s2x : (so == 2) = false:=by simp [gs]
 have z0 : (e.op == 0) = false:=by simp [gop]
 have z1 : (e.op == 1) = true:=by simp [gop]
 have z2 : (e.op == 2) = false:=by simp [gop]
 have z3 : (e.op == 3) = false:=by simp [gop]
 have w0 : (e.who == j) = true:=beq_iff_eq.2 gw
 have v0 : decide (e.old < e.new) = false:=decide_eq_false gx
 clear hb gop gw gs
 have hwb:=h.obj.lt
 obtain ⟨q0,q1,q2,q3,q4,q5⟩ : _ ∧ _ ∧ _ ∧ _ ∧ _ ∧ _:=⟨h.obj.at' 0 _ rfl,h.obj.at' 1 _ rfl,h.obj.at' 2 _ rfl,h.obj.at' 3 _ rfl,h.obj.at' 4 _ rfl,h.obj.at' 5 _ rfl⟩
 clear h hf
 go_enter Tryz.func88,Tryz.ntmps88
 go_wp2_with fail
 go_ret
 exact ⟨rfl,zAB (Below.refl _ _) _⟩
theorem zFq (h : WAt w wb bc bg t s so d N n f g) (hf : e.Fit) (j : Int) (b : Bool) (hb : b = true ↔ MayN so j e) (hway : so = 1 ∧ e.op = 1 ∧ e.who = j ∧ e.old < e.new) :
  Calls Tryz.prog 88 #[pt wb,e.v,i64 j] w fun r w'=>r = .returned (.bool b) ∧ Below w.heap.size w w':=by
 obtain ⟨gs,gop,gw,gx⟩:=hway
 obtain rfl : b = true:=hb.2 (.inr (.inl ⟨gs,.inr ⟨gop,gw,gx⟩⟩))
 have s0x : (so == 0) = false:=by simp [gs]
 have s1x : (so == 1) = true:=by simp [gs]
 have s2x : (so == 2) = false:=by simp [gs]
 have z0 : (e.op == 0) = false:=by simp [gop]
 have z1 : (e.op == 1) = true:=by simp [gop]
 have z2 : (e.op == 2) = false:=by simp [gop]
 have z3 : (e.op == 3) = false:=by simp [gop]
 have w0 : (e.who == j) = true:=beq_iff_eq.2 gw
 have v0 : decide (e.old < e.new) = true:=decide_eq_true gx
 clear hb gop gw gs
 have hwb:=h.obj.lt
 obtain ⟨q0,q1,q2,q3,q4,q5⟩ : _ ∧ _ ∧ _ ∧ _ ∧ _ ∧ _:=⟨h.obj.at' 0 _ rfl,h.obj.at' 1 _ rfl,h.obj.at' 2 _ rfl,h.obj.at' 3 _ rfl,h.obj.at' 4 _ rfl,h.obj.at' 5 _ rfl⟩
 clear h hf
 go_enter Tryz.func88,Tryz.ntmps88
 go_wp2_with fail
 go_ret
 exact ⟨rfl,zAB (Below.refl _ _) _⟩
theorem zFo (h : WAt w wb bc bg t s so d N n f g) (hf : e.Fit) (j : Int) (b : Bool) (hb : b = true ↔ MayN so j e) (hway : so = 2 ∧ j ≠ 0) :
  Calls Tryz.prog 88 #[pt wb,e.v,i64 j] w fun r w'=>r = .returned (.bool b) ∧ Below w.heap.size w w':=by
 obtain ⟨gs,gj⟩:=hway
 obtain rfl : b = false:=by
  cases b with
  | false=>rfl
  | true=>exact absurd (hb.1 rfl) (by unfold MayN inc64; omega)
 have s0x : (so == 0) = false:=by simp [gs]
 have s1x : (so == 1) = false:=by simp [gs]
 have s2x : (so == 2) = true:=by simp [gs]
 have j0 : (j == 0) = false:=beq_false_of_ne gj
 clear hb gj gs
 have hwb:=h.obj.lt
 obtain ⟨q0,q1,q2,q3,q4,q5⟩ : _ ∧ _ ∧ _ ∧ _ ∧ _ ∧ _:=⟨h.obj.at' 0 _ rfl,h.obj.at' 1 _ rfl,h.obj.at' 2 _ rfl,h.obj.at' 3 _ rfl,h.obj.at' 4 _ rfl,h.obj.at' 5 _ rfl⟩
 clear h hf
 go_enter Tryz.func88,Tryz.ntmps88
 go_wp2_with fail
 go_ret
 exact ⟨rfl,zAB (Below.refl _ _) _⟩
theorem zFh (h : WAt w wb bc bg t s so d N n f g) (hf : e.Fit) (j : Int) (b : Bool) (hb : b = true ↔ MayN so j e) (hway : so = 2 ∧ j = 0 ∧ e.op = 0) :
  Calls Tryz.prog 88 #[pt wb,e.v,i64 j] w fun r w'=>r = .returned (.bool b) ∧ Below w.heap.size w w':=by
 obtain ⟨gs,gj,gop⟩:=hway
 obtain rfl : b = true:=hb.2 (.inr (.inr ⟨gs,gj,.inl gop⟩))
 have s0x : (so == 0) = false:=by simp [gs]
 have s1x : (so == 1) = false:=by simp [gs]
 have s2x : (so == 2) = true:=by simp [gs]
 have j0 : (j == 0) = true:=by simp [gj]
 have z0 : (e.op == 0) = true:=by simp [gop]
 have z1 : (e.op == 1) = false:=by simp [gop]
 have z2 : (e.op == 2) = false:=by simp [gop]
 have z3 : (e.op == 3) = false:=by simp [gop]
 clear hb gj gop gs
 have hwb:=h.obj.lt
 obtain ⟨q0,q1,q2,q3,q4,q5⟩ : _ ∧ _ ∧ _ ∧ _ ∧ _ ∧ _:=⟨h.obj.at' 0 _ rfl,h.obj.at' 1 _ rfl,h.obj.at' 2 _ rfl,h.obj.at' 3 _ rfl,h.obj.at' 4 _ rfl,h.obj.at' 5 _ rfl⟩
 clear h hf
 go_enter Tryz.func88,Tryz.ntmps88
 go_wp2_with fail
 go_ret
 exact ⟨rfl,zAB (Below.refl _ _) _⟩
theorem zFN (h : WAt w wb bc bg t s so d N n f g) (hf : e.Fit) (j : Int) (b : Bool) (hb : b = true ↔ MayN so j e) (hway : so = 2 ∧ j = 0 ∧ e.op ≠ 0 ∧ e.op ≠ 2) :
  Calls Tryz.prog 88 #[pt wb,e.v,i64 j] w fun r w'=>r = .returned (.bool b) ∧ Below w.heap.size w w':=by
 obtain ⟨gs,gj,gn0,gn2⟩:=hway
 obtain rfl : b = false:=by
  cases b with
  | false=>rfl
  | true=>exact absurd (hb.1 rfl) (by unfold MayN inc64; omega)
 have s0x : (so == 0) = false:=by simp [gs]
 have s1x : (so == 1) = false:=by simp [gs]
 have s2x : (so == 2) = true:=by simp [gs]
 have j0 : (j == 0) = true:=by simp [gj]
 have z0 : (e.op == 0) = false:=beq_false_of_ne gn0
 obtain ⟨zz1,z1⟩ : ∃ z,(e.op == 1) = z:=⟨_,rfl⟩
 have z2 : (e.op == 2) = false:=beq_false_of_ne gn2
 obtain ⟨zz3,z3⟩ : ∃ z,(e.op == 3) = z:=⟨_,rfl⟩
 clear hb gj gn0 gn2 gs
 have hwb:=h.obj.lt
 obtain ⟨q0,q1,q2,q3,q4,q5⟩ : _ ∧ _ ∧ _ ∧ _ ∧ _ ∧ _:=⟨h.obj.at' 0 _ rfl,h.obj.at' 1 _ rfl,h.obj.at' 2 _ rfl,h.obj.at' 3 _ rfl,h.obj.at' 4 _ rfl,h.obj.at' 5 _ rfl⟩
 clear h hf
 go_enter Tryz.func88,Tryz.ntmps88
 go_wp2_with fail
 go_ret
 exact ⟨rfl,zAB (Below.refl _ _) _⟩
theorem zEz (h : WAt w wb bc bg t s so d N n f g) (hf : e.Fit) (j : Int) (b : Bool) (hb : b = true ↔ MayN so j e) (hway : so = 2 ∧ j = 0 ∧ e.op = 2 ∧ e.ok = false) :
  Calls Tryz.prog 88 #[pt wb,e.v,i64 j] w fun r w'=>r = .returned (.bool b) ∧ Below w.heap.size w w':=by
 obtain ⟨gs,gj,gop,gk⟩:=hway
 obtain rfl : b = true:=hb.2 (.inr (.inr ⟨gs,gj,.inr ⟨gop,.inl gk⟩⟩))
 have s0x : (so == 0) = false:=by simp [gs]
 have s1x : (so == 1) = false:=by simp [gs]
 have s2x : (so == 2) = true:=by simp [gs]
 have j0 : (j == 0) = true:=by simp [gj]
 have z0 : (e.op == 0) = false:=by simp [gop]
 have z1 : (e.op == 1) = false:=by simp [gop]
 have z2 : (e.op == 2) = true:=by simp [gop]
 have z3 : (e.op == 3) = false:=by simp [gop]
 have GK:=zI2 gk
 clear hb gj gop gs gk
 have hwb:=h.obj.lt
 obtain ⟨q0,q1,q2,q3,q4,q5⟩ : _ ∧ _ ∧ _ ∧ _ ∧ _ ∧ _:=⟨h.obj.at' 0 _ rfl,h.obj.at' 1 _ rfl,h.obj.at' 2 _ rfl,h.obj.at' 3 _ rfl,h.obj.at' 4 _ rfl,h.obj.at' 5 _ rfl⟩
 clear h hf
 go_enter Tryz.func88,Tryz.ntmps88
 have gk:=GK.out
 go_wp2_with fail
 go_ret
 exact ⟨rfl,zAB (Below.refl _ _) _⟩
theorem zE7 (h : WAt w wb bc bg t s so d N n f g) (hf : e.Fit) (j : Int) (b : Bool) (hb : b = true ↔ MayN so j e) (hway : so = 2 ∧ j = 0 ∧ e.op = 2 ∧ e.ok = true ∧ e.new ≠ IntKind.u64.wrap (e.old + 1)) :
  Calls Tryz.prog 88 #[pt wb,e.v,i64 j] w fun r w'=>r = .returned (.bool b) ∧ Below w.heap.size w w':=by
 obtain ⟨gs,gj,gop,gk,gx⟩:=hway
 obtain rfl : b = false:=by
  cases b with
  | false=>rfl
  | true =>
   rcases hb.1 rfl with ⟨q,_⟩ | ⟨q,_⟩ | ⟨_,_,q | ⟨_,q | q⟩⟩
   ·omega
   ·omega
   ·omega
   ·rw [gk] at q; cases q
   ·exact absurd q gx
 have s0x : (so == 0) = false:=by simp [gs]
 have s1x : (so == 1) = false:=by simp [gs]
 have s2x : (so == 2) = true:=by simp [gs]
 have j0 : (j == 0) = true:=by simp [gj]
 have z0 : (e.op == 0) = false:=by simp [gop]
 have z1 : (e.op == 1) = false:=by simp [gop]
 have z2 : (e.op == 2) = true:=by simp [gop]
 have z3 : (e.op == 3) = false:=by simp [gop]
 have n0 : (e.new == IntKind.u64.wrap (e.old + 1)) = false:=beq_false_of_ne gx
 have GK:=zI2 gk
 clear hb gj gop gx gs gk
 have hwb:=h.obj.lt
 obtain ⟨q0,q1,q2,q3,q4,q5⟩ : _ ∧ _ ∧ _ ∧ _ ∧ _ ∧ _:=⟨h.obj.at' 0 _ rfl,h.obj.at' 1 _ rfl,h.obj.at' 2 _ rfl,h.obj.at' 3 _ rfl,h.obj.at' 4 _ rfl,h.obj.at' 5 _ rfl⟩
 clear h hf
 go_enter Tryz.func88,Tryz.ntmps88
 have gk:=GK.out
 go_wp2_with fail
 go_ret
 exact ⟨rfl,zAB (Below.refl _ _) _⟩
theorem zE9 (h : WAt w wb bc bg t s so d N n f g) (hf : e.Fit) (j : Int) (b : Bool) (hb : b = true ↔ MayN so j e) (hway : so = 2 ∧ j = 0 ∧ e.op = 2 ∧ e.ok = true ∧ e.new = IntKind.u64.wrap (e.old + 1)) :
  Calls Tryz.prog 88 #[pt wb,e.v,i64 j] w fun r w'=>r = .returned (.bool b) ∧ Below w.heap.size w w':=by
 obtain ⟨gs,gj,gop,gk,gx⟩:=hway
 obtain rfl : b = true:=hb.2 (.inr (.inr ⟨gs,gj,.inr ⟨gop,.inr gx⟩⟩))
 have s0x : (so == 0) = false:=by simp [gs]
 have s1x : (so == 1) = false:=by simp [gs]
 have s2x : (so == 2) = true:=by simp [gs]
 have j0 : (j == 0) = true:=by simp [gj]
 have z0 : (e.op == 0) = false:=by simp [gop]
 have z1 : (e.op == 1) = false:=by simp [gop]
 have z2 : (e.op == 2) = true:=by simp [gop]
 have z3 : (e.op == 3) = false:=by simp [gop]
 have n0 : (e.new == IntKind.u64.wrap (e.old + 1)) = true:=by simp [gx]
 have GK:=zI2 gk
 clear hb gj gop gx gs gk
 have hwb:=h.obj.lt
 obtain ⟨q0,q1,q2,q3,q4,q5⟩ : _ ∧ _ ∧ _ ∧ _ ∧ _ ∧ _:=⟨h.obj.at' 0 _ rfl,h.obj.at' 1 _ rfl,h.obj.at' 2 _ rfl,h.obj.at' 3 _ rfl,h.obj.at' 4 _ rfl,h.obj.at' 5 _ rfl⟩
 clear h hf
 go_enter Tryz.func88,Tryz.ntmps88
 have gk:=GK.out
 go_wp2_with fail
 go_ret
 exact ⟨rfl,zAB (Below.refl _ _) _⟩
theorem zEy (h : WAt w wb bc bg t s so d N n f g) (hf : e.Fit) (j : Int) (b : Bool) (hb : b = true ↔ MayN so j e) (hway : so ≠ 0 ∧ so ≠ 1 ∧ so ≠ 2) :
  Calls Tryz.prog 88 #[pt wb,e.v,i64 j] w fun r w'=>r = .returned (.bool b) ∧ Below w.heap.size w w':=by
 obtain ⟨gs0,gs1,gs2⟩:=hway
 obtain rfl : b = false:=by
  cases b with
  | false=>rfl
  | true=>exact absurd (hb.1 rfl) (by unfold MayN inc64; omega)
 have s0x : (so == 0) = false:=beq_false_of_ne gs0
 have s1x : (so == 1) = false:=beq_false_of_ne gs1
 have s2x : (so == 2) = false:=beq_false_of_ne gs2
 clear hb gs0 gs1 gs2
 have hwb:=h.obj.lt
 obtain ⟨q0,q1,q2,q3,q4,q5⟩ : _ ∧ _ ∧ _ ∧ _ ∧ _ ∧ _:=⟨h.obj.at' 0 _ rfl,h.obj.at' 1 _ rfl,h.obj.at' 2 _ rfl,h.obj.at' 3 _ rfl,h.obj.at' 4 _ rfl,h.obj.at' 5 _ rfl⟩
 clear h hf
 go_enter Tryz.func88,Tryz.ntmps88
 go_wp2_with fail
 go_ret
 exact ⟨rfl,zAB (Below.refl _ _) _⟩
theorem zEP (h : WAt w wb bc bg t s so d N n f g) (hf : e.Fit) (j : Int) (b : Bool) (hb : b = true ↔ MayN so j e) :
  Calls Tryz.prog 88 #[pt wb,e.v,i64 j] w fun r w'=>r = .returned (.bool b) ∧ Below w.heap.size w w':=by
 by_cases q0 : so = 0
 ·by_cases q4 : j = 0
  ·by_cases q8 : e.op = 3
   ·by_cases q11 : e.new = IntKind.u64.wrap (e.old + 1)
    ·exact zG9 h hf j b hb ⟨q0,q4,q8,q11⟩
    ·exact zF0 h hf j b hb ⟨q0,q4,q8,q11⟩
   ·exact zGy h hf j b hb ⟨q0,q4,q8⟩
  ·exact zFv h hf j b hb ⟨q0,q4⟩
 by_cases q1 : so = 1
 ·by_cases q5 : e.op = 0
  ·exact zGn h hf j b hb ⟨q1,q5⟩
  by_cases q6 : e.op = 1
  ·by_cases q9 : e.who = j
   ·by_cases q10 : e.old < e.new
    ·exact zFq h hf j b hb ⟨q1,q6,q9,q10⟩
    ·exact zF3 h hf j b hb ⟨q1,q6,q9,q10⟩
   ·exact zGG h hf j b hb ⟨q1,q6,q9⟩
  ·exact zG2 h hf j b hb ⟨q1,q5,q6⟩
 by_cases q2 : so = 2
 ·by_cases q4 : j = 0
  ·by_cases q5 : e.op = 0
   ·exact zFh h hf j b hb ⟨q2,q4,q5⟩
   by_cases q7 : e.op = 2
   ·cases q12 : e.ok
    ·exact zEz h hf j b hb ⟨q2,q4,q7,q12⟩
    ·by_cases q11 : e.new = IntKind.u64.wrap (e.old + 1)
     ·exact zE9 h hf j b hb ⟨q2,q4,q7,q12,q11⟩
     ·exact zE7 h hf j b hb ⟨q2,q4,q7,q12,q11⟩
   ·exact zFN h hf j b hb ⟨q2,q4,q5,q7⟩
  ·exact zFo h hf j b hb ⟨q2,q4⟩
 exact zEy h hf j b hb ⟨q0,q1,q2⟩
end
end
end Go.Proofs.YtebgjfhaolgcjaaGreat
