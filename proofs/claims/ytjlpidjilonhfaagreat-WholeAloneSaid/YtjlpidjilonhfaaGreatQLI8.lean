/- Contracts and plain lemmas that these laws need. No condition. -/

import Derived.Test.YtjlpidjilonhfaaGreatQLI1
import Derived.Test.YtjlpidjilonhfaaGreatQLI2
import Derived.Test.YtjlpidjilonhfaaGreatQLI6
import Derived.Test.YtjlpidjilonhfaaGreatQLI7
namespace Go.Proofs.YtjlpidjilonhfaaGreat
set_option linter.unusedVariables false
set_option maxHeartbeats 8000000
set_option maxRecDepth 100000
section
open Go.RowKit
section
variable {so : Int} {N nb : Nat} {C C' : List Int} {L L' : List Ev} {k : Pu} {a : Ta}
theorem PA.mono (h : PA so nb C k) (h1 : k.ph = 0 → (k.cl.ph = 1 ∨ 1 ≤ k.cl.steps) → C'.getD k.cl.slot.toNat 0 = C.getD k.cl.slot.toNat 0) (h2 : so = 1 → C'.getD (nb + k.who.toNat) 0 = C.getD (nb + k.who.toNat) 0) : PA so nb C' k :=
 ⟨h.so',fun p q=>by rw [h1 p q]; exact h.word p q,fun p q r s=>by rw [h2 q]; exact h.num p q r s⟩
theorem TA.mono (h : TA N C L a) (h1 : C'.getD (2 * N + a.who.toNat) 0 = C.getD (2 * N + a.who.toNat) 0) (h2 : a.next = 2 → (C.getD a.slot.toNat 0 = a.word ∨ C.getD a.slot.toNat 0 = tkW a.word) → (C'.getD a.slot.toNat 0 = a.word ∨ C'.getD a.slot.toNat 0 = tkW a.word)) (h3 : loadE L' a.who a.slot = loadE L a.who a.slot) : TA N C' L' a :=
 ⟨h.live,fun hn=>by rw [h1]; exact h.hz hn,fun hn=>⟨h2 hn (h.word hn).1,by rw [h3]; exact (h.word hn).2⟩⟩
end
structure AOk (B : YB) (N : Nat) (Y : Yd) : Prop where
 cells : ∀ j : Nat,j < Y.C.length → lastE Y.L (j : Int) = Y.C.getD j 0
 all : AllMay B.t B.s B.so N Y.L
 put : ∀ (w : Nat) (k : Pu) (i : Nat),Y.ts[w]? = some (some (.pu k,i)) → PA B.so (2 * N + B.T) Y.C k
 get : ∀ (w : Nat) (k : Ge) (i : Nat) (a : Ta),Y.ts[w]? = some (some (.ge k,i)) → k.ta = some a → TA N Y.C Y.L a
 cross : ∀ (w : Nat) (k : Ge) (i : Nat) (a : Ta),Y.ts[w]? = some (some (.ge k,i)) → k.ta = some a → a.next = 2 → ∀ (v : Nat) (p : Pu) (j : Nat),Y.ts[v]? = some (some (.pu p,j)) → p.cl.slot = a.slot → ¬ p.past a.who
structure PFacts (B : YB) (N : Nat) (C : List Int) (w : Nat) (k : Pu) : Prop where
 ok : k.Ok N ((w : Int) * B.s) (2 * N + B.T) (2 * N) C
 who : k.who = w
 ph : k.ph = 0
 t : k.t = B.t
 s : k.s = B.s
 lo : (w : Int) * B.s ≤ k.cl.slot
 hi : k.cl.slot < (w : Int) * B.s + B.s
 n1 : (w : Int) * B.s + B.s ≤ N
 wT : w < B.T
structure GFacts (B : YB) (N : Nat) (C : List Int) (w : Nat) (k : Ge) : Prop where
 ok : k.Ok N (2 * N + w) C
 who : k.who = w
 ph : k.ph = 0
 wT : w < B.T
 sw : k.sn.who = w
 ta : ∀ a,k.ta = some a → a.who = w ∧ a.ph = 0 ∧ 0 ≤ a.slot ∧ a.slot < N ∧ a.Ok N a.slot.toNat (N + a.slot.toNat) (2 * N + w) C
section
variable {B : YB} {N n : Nat} {Y Y' : Yd} {w : Nat}
theorem AOk.start (C : List Int) (hC : ∀ j,C.getD j 0 = 0) (T : Nat) : AOk B N ⟨C,[],0,0,List.replicate T none,[]⟩:=by
 have hn : ∀ (w : Nat) (x : Wk × Nat),(List.replicate T (none : Option (Wk × Nat)))[w]? ≠ some (some x):=fun w x h=>by
  rw [List.getElem?_replicate] at h
  split at h <;> cases h
 exact ⟨fun j _=>(hC j).symm,AllMay.nil _ _ _ _,fun w k i h=>absurd h (hn w _),fun w k i a h=>absurd h (hn w _),fun w k i a h=>absurd h (hn w _)⟩
theorem lay_s {t s s' : Int} {n : Int} (h : Lay t s n) (h' : Lay t s' n) : s = s':=by
 have e1:=h.eq
 have e2:=h'.eq
 have t1:=h.t1
 have : t * (s - s') = 0:=by rw [Int.mul_sub]; omega
 rcases Int.mul_eq_zero.1 this with h0 | h0 <;> omega
theorem YOk.putF (ho : YOk (plOf B N) B.T n Y) (hc : YCf B N) (hT : (B.T : Int) = B.t) (hl : (Y.C.length : Int) = 2 * N + 2 * B.t) {k : Pu} {i : Nat} (hw : Y.ts[w]? = some (some (.pu k,i))) : PFacts B N Y.C w k:=by
 obtain ⟨h1,_,h3,h4,_⟩:=ho.task w _ i hw
 have h1' : k.Ok N ((w : Int) * B.s) (2 * N + B.T) (2 * N) Y.C:=h1
 have h3' : k.who = w:=h3
 have hwT : w < B.T:=by rw [← ho.len]; exact (List.getElem?_eq_some_iff.1 hw).1
 have hct : k.cl.t = B.t:=by have:=h1'.cl.len; omega
 have hlay:=h1'.cl.lay
 rw [hct] at hlay
 have hs : k.cl.s = B.s:=lay_s hlay hc.lay
 obtain ⟨m0,m1⟩:=hc.own hT hwT
 exact ⟨h1',h3',h4,by rw [← h1'.ct]; exact hct,by rw [← h1'.cs]; exact hs,h1'.cl.s0,by have h5:=h1'.cl.s1; rw [hs] at h5; exact h5,m1,hwT⟩
theorem YOk.getF (ho : YOk (plOf B N) B.T n Y) {k : Ge} {i : Nat} (hw : Y.ts[w]? = some (some (.ge k,i))) : GFacts B N Y.C w k:=by
 obtain ⟨h1,_,h3,h4,_⟩:=ho.task w _ i hw
 have h1' : k.Ok N (2 * N + w) Y.C:=h1.1
 obtain ⟨w1,w2,w3⟩ : k.who = w ∧ k.sn.who = w ∧ ∀ a,k.ta = some a → a.who = w:=h3
 have hwT : w < B.T:=by rw [← ho.len]; exact (List.getElem?_eq_some_iff.1 hw).1
 refine ⟨h1',w1,h4,hwT,w2,fun a ha=>?_⟩
 obtain ⟨o1,o2⟩:=h1'.ta h4 a ha
 exact ⟨w3 a ha,o2,o1.s0,o1.s1,o1⟩
inductive Eff (B : YB) (N : Nat) (Y : Yd) (w : Nat) : List Int → Prop
 | same : Eff B N Y w Y.C
 | value (c : Nat) (x : Int) (h1 : N ≤ c) (h2 : c < 2 * N) : Eff B N Y w (Y.C.set c x)
 | hazard (x : Int) : Eff B N Y w (Y.C.set (2 * N + w) x)
 | number (c : Nat) (x : Int) (h1 : 2 * N + B.T ≤ c) (h2 : B.so = 1 → c = 2 * N + B.T + w) : Eff B N Y w (Y.C.set c x)
 | word (k : Pu) (i : Nat) (hw : Y.ts[w]? = some (some (.pu k,i))) (h1 : k.cl.ph = 1) (x : Int) : Eff B N Y w (Y.C.set k.cl.slot.toNat x)
 | taken (c : Nat) (hc : c < N) (hl : Y.C.getD c 0 % 4 = 1) : Eff B N Y w (Y.C.set c (tkW (Y.C.getD c 0)))
section
variable (h : AOk B N Y) (ho : YOk (plOf B N) B.T n Y) (hc : YCf B N) (hT : (B.T : Int) = B.t) (hl : (Y.C.length : Int) = 2 * N + 2 * B.t) (hwT : w < B.T)
include h ho hc hT hl hwT
theorem Eff.puts {C' : List Int} (e : Eff B N Y w C') {v : Nat} (hv : v ≠ w) {p : Pu} {j : Nat} (hp : Y.ts[v]? = some (some (.pu p,j))) : PA B.so (2 * N + B.T) C' p:=by
 have hP:=h.put v p j hp
 have hF:=ho.putF hc hT hl hp
 have b1:=hF.lo
 have b2:=hF.hi
 have b3:=hF.n1
 have b4:=hF.who
 have b5:=hF.wT
 obtain ⟨m0,_⟩:=hc.own hT hF.wT
 cases e with
 | same=>exact hP
 | value c x h1 h2=>exact hP.mono (fun _ _=>zAF x (by omega)) (fun _=>zAF x (by omega))
 | hazard x =>
  exact hP.mono (fun _ _=>zAF x (by omega)) (fun _=>zAF x (by omega))
 | number c x h1 h2=>exact hP.mono (fun _ _=>zAF x (by omega)) (fun hs=>zAF x (by have:=h2 hs; omega))
 | word k i hw h1 x =>
  have hG:=ho.putF hc hT hl hw
  have g1:=hG.lo
  have g2:=hG.hi
  have g3:=hG.n1
  obtain ⟨m1,_⟩:=hc.own hT hG.wT
  have s1:=hc.lay.s1
  have hne : k.cl.slot ≠ p.cl.slot:=fun he=>by
   rcases (by omega : v < w ∨ w < v) with hvw | hvw
   ·have h5 : ((v : Int) + 1) * B.s ≤ (w : Int) * B.s:=Int.mul_le_mul_of_nonneg_right (by omega) (by omega)
    rw [Int.add_mul,Int.one_mul] at h5
    omega
   ·have h5 : ((w : Int) + 1) * B.s ≤ (v : Int) * B.s:=Int.mul_le_mul_of_nonneg_right (by omega) (by omega)
    rw [Int.add_mul,Int.one_mul] at h5
    omega
  exact hP.mono (fun _ _=>zAF x (by omega)) (fun _=>zAF x (by omega))
 | taken c h1 h2 =>
  refine hP.mono (fun q1 q2=>?_) (fun _=>zAF _ (by omega))
  by_cases he : c = p.cl.slot.toNat
  ·have:=(hP.word q1 q2).1
   rw [← he] at this
   exact absurd h2 this
  ·exact zAF _ he
theorem Eff.gets (hfit : ∀ j,0 ≤ Y.C.getD j 0) {C' : List Int} (e : Eff B N Y w C') {E : List Ev} (hE : ∀ x ∈ E,x.who = w) {v : Nat} (hv : v ≠ w) {k : Ge} {j : Nat} {a : Ta} (hk : Y.ts[v]? = some (some (.ge k,j))) (ha : k.ta = some a) (hEl : E.length ≤ 1) : TA N C' (Y.L ++ E) a:=by
 have hA:=h.get v k j a hk ha
 have hF:=ho.getF hk
 obtain ⟨b1,b2,b3,b4,b5⟩:=hF.ta a ha
 have b6:=hF.wT
 have hload : loadE (Y.L ++ E) a.who a.slot = loadE Y.L a.who a.slot:=by
  match E,hE,hEl with
  | [],_,_=>rw [List.append_nil]
  | [x],hE,_ =>
   rw [zCm,if_neg]
   intro hx
   have:=hE x (List.mem_singleton.2 rfl)
   omega
  | x :: y :: l,_,hEl=>simp at hEl
 cases e with
 | same=>exact hA.mono rfl (fun _ h=>h) hload
 | value c x h1 h2=>exact hA.mono (zAF x (by omega)) (fun _ hq=>by rw [zAF x (by omega)]; exact hq) hload
 | hazard x=>exact hA.mono (zAF x (by omega)) (fun _ hq=>by rw [zAF x (by omega)]; exact hq) hload
 | number c x h1 h2=>exact hA.mono (zAF x (by omega)) (fun _ hq=>by rw [zAF x (by omega)]; exact hq) hload
 | word p i hw h1 x =>
  have hG:=ho.putF hc hT hl hw
  have g1:=hG.lo
  have g3:=hG.n1
  have g4:=hG.hi
  obtain ⟨m1,_⟩:=hc.own hT hG.wT
  refine hA.mono (zAF x (by omega)) (fun hn hq=>?_) hload
  by_cases he : p.cl.slot.toNat = a.slot.toNat
  ·exact absurd ⟨hG.ph,.inl h1⟩ (h.cross v k j a hk ha hn w p i hw (by omega))
  ·rw [zAF x he]
   exact hq
 | taken c h1 h2 =>
  refine hA.mono (zAF _ (by omega)) (fun hn hq=>?_) hload
  by_cases he : c = a.slot.toNat
  ·subst he
   have x0:=b5.x0
   rcases hq with hq | hq
   ·right
    rw [zAL _ (by omega),hq]
   ·rw [hq] at h2
    have:=(zAj x0).1
    omega
  ·rw [zAF _ he]
   exact hq
end
end
structure EvAt (B : YB) (N : Nat) (Y : Yd) (w : Nat) (e : Ev) : Prop where
 who : e.who = w
 wT : w < B.T
 c0 : 0 ≤ e.cell
 c1 : e.cell < 2 * N + 2 * B.t
 old : e.old = Y.C.getD e.cell.toNat 0
section
variable {B : YB} {N n : Nat} {Y Y' : Yd} {w : Nat} {e : Ev}
theorem zEB {x s : Int} {w : Nat} (hs : 1 ≤ s) (h0 : (w : Int) * s ≤ x) (h1 : x < (w : Int) * s + s) : (w : Int) = x / s:=by
 have e1:=Int.mul_ediv_add_emod x s
 have e2:=Int.emod_nonneg x (show s ≠ 0 by omega)
 have e3:=Int.emod_lt_of_pos x (show 0 < s by omega)
 generalize x / s = q at e1 ⊢
 rw [Int.mul_comm] at e1
 rcases Int.lt_trichotomy (w : Int) q with hlt | heq | hlt
 ·have h5 : ((w : Int) + 1) * s ≤ q * s:=Int.mul_le_mul_of_nonneg_right (by omega) (by omega)
  rw [Int.add_mul,Int.one_mul] at h5
  omega
 ·exact heq
 ·have h5 : (q + 1) * s ≤ (w : Int) * s:=Int.mul_le_mul_of_nonneg_right (by omega) (by omega)
  rw [Int.add_mul,Int.one_mul] at h5
  omega
theorem AOk.last (h : AOk B N Y) (hl : (Y.C.length : Int) = 2 * N + 2 * B.t) {c : Int} (c0 : 0 ≤ c) (c1 : c < 2 * N + 2 * B.t) : lastE Y.L c = Y.C.getD c.toNat 0:=by
 have:=h.cells c.toNat (by omega)
 rw [Int.toNat_of_nonneg c0] at this
 exact this
theorem AOk.may (h : AOk B N Y) (hT : (B.T : Int) = B.t) (hl : (Y.C.length : Int) = 2 * N + 2 * B.t) (he : EvAt B N Y w e)
  (hm : if e.cell < N then MayW B.s e else if e.cell < 2 * N then MayV N B.s (lastE Y.L) (loadE Y.L) e else if e.cell < 2 * N + B.t then MayH N e else MayN B.so (e.cell - 2 * N - B.t) e) : May B.t B.s B.so N Y.L e :=
 ⟨by rw [he.who]; omega,by rw [he.who]; have:=he.wT; omega,he.c0,he.c1,he.old.trans (h.last hl he.c0 he.c1).symm,hm⟩
theorem zFX {who : Int} {C C' : List Int} {E : List Ev} {L : List Ev} (hN : Noted who C C' E) (h : ∀ j : Nat,j < C.length → lastE L (j : Int) = C.getD j 0) : ∀ j : Nat,j < C'.length → lastE (L ++ E) (j : Int) = C'.getD j 0:=fun j hj=>by
 rcases hN with ⟨rfl,rfl⟩ | ⟨e,rfl,hN⟩
 ·rw [List.append_nil]
  exact h j hj
 ·have c0:=hN.c0
  have c1:=hN.c1
  have hc:=hN.cells
  rw [hc,List.length_set] at hj
  rw [zFL,hc]
  by_cases hx : e.cell = (j : Int)
  ·rw [if_pos hx,show e.cell.toNat = j by omega,zAL _ hj]
  ·rw [if_neg hx,zAF _ (by omega)]
   exact h j hj
theorem EvAt.of (hl : (Y.C.length : Int) = 2 * N + 2 * B.t) (hwT : w < B.T) {C' : List Int} (hN : Note1 w Y.C C' e) : EvAt B N Y w e :=
 ⟨hN.who',hwT,hN.c0,by have:=hN.c1; omega,hN.old⟩
end
theorem stp_so {nb : Nat} {k : Tk} {C : List Int} {now : Int} : (stp nb k C now).1.so = k.so:=by
 have hf : ∀ (k : Tk) (x y : Int),(fin k x y).so = k.so:=fun k x y=>by unfold fin; split <;> rfl
 unfold stp
 repeat' split
 all_goals first | rfl | exact hf _ _ _
theorem zIb {nb : Nat} {n : Int} {k : Tk} {C : List Int} {now : Int} (h : k.Ok nb n C) (ho : k.so = 1) (hs : k.ph = 0 → k.who < k.steps → low (C.getD (nb + k.who.toNat) 0) ≤ k.seen) (hp : (stp nb k C now).1.ph = 0) (hw : k.who < (stp nb k C now).1.steps) :
  low ((stp nb k C now).2.1.getD (nb + k.who.toNat) 0) ≤ (stp nb k C now).1.seen:=by
 have w0:=h.w0
 have s0:=h.s0
 unfold stp at hp hw ⊢
 by_cases hp0 : k.ph = 0
 ·rw [if_pos hp0,if_neg (by omega),if_pos ho] at hp hw ⊢
  by_cases hst : k.steps < k.t
  ·rw [if_pos hst] at hw ⊢
   have hw' : k.who < k.steps + 1:=hw
   show low (C.getD (nb + k.who.toNat) 0) ≤ max k.seen (low (C.getD (nb + k.steps.toNat) 0))
   rcases (by omega : k.who < k.steps ∨ k.who = k.steps) with hq | hq
   ·have:=hs hp0 hq
    omega
   ·rw [hq]
    exact Int.le_max_right _ _
  ·rw [if_neg hst] at hp
   split at hp
   ·exact absurd hp (by show ¬ (1 : Int) = 0; decide)
   ·exact absurd hp (by show ¬ (2 : Int) = 0; decide)
 ·rw [if_neg hp0] at hp
  exact absurd hp hp0
theorem zCG {nb : Nat} {n : Int} {k : Tk} {C : List Int} {now so : Int} (h : k.Ok nb n C) (hso : k.so = so) (hf : ∀ j,0 ≤ C.getD j 0 ∧ C.getD j 0 ≤ 18446744073709551615) (hs : so = 1 → k.who < k.steps → low (C.getD (nb + k.who.toNat) 0) ≤ k.seen) :
  (stp nb k C now).2.1 = C ∨ ∃ c x,(stp nb k C now).2.1 = C.set c x ∧ nb ≤ c ∧ (so = 1 → c = nb + k.who.toNat):=by
 have hN:=zDk (now:=now) h
 have w0:=h.w0
 rcases zFx (now:=now) h hso hf hs with hn | ⟨e,he,w1,x1,x2,x3,x4⟩
 ·rw [hn] at hN
  rcases hN with ⟨_,hC⟩ | ⟨x,hx,_⟩
  ·exact .inl hC
  ·cases hx
 ·rw [he] at hN
  rcases hN with ⟨h0,_⟩ | ⟨x,hx,hN⟩
  ·cases h0
  ·cases hx
   have c1:=hN.c1
   by_cases h1 : so = 1 ∧ e.op = 0
   ·left
    rw [hN.cells,hN.new (.inl h1.2)]
    exact zDP (by omega)
   ·refine .inr ⟨e.cell.toNat,e.new,hN.cells,by omega,fun hq=>?_⟩
    rcases x4 with ⟨q,_⟩ | ⟨_,q | ⟨_,q,_⟩⟩ | ⟨q,_⟩
    ·omega
    ·exact absurd ⟨hq,q⟩ h1
    ·omega
    ·omega
section
variable {B : YB} {N n : Nat} {Y Y' : Yd} {w : Nat}
theorem AOk.putStep (h : AOk B N Y) (ho : YOk (plOf B N) B.T n Y) (hc : YCf B N) (hT : (B.T : Int) = B.t) (hl : (Y.C.length : Int) = 2 * N + 2 * B.t) (hfit : ∀ j,0 ≤ Y.C.getD j 0 ∧ Y.C.getD j 0 ≤ 18446744073709551615) {k : Pu} {i : Nat} (hw : Y.ts[w]? = some (some (.pu k,i))) (now : Int) :
  (∀ e ∈ k.ev N (2 * N + B.T) (2 * N) Y.C now,May B.t B.s B.so N Y.L e) ∧ Eff B N Y w (k.cells N (2 * N + B.T) Y.C now) ∧
   ((k.step ((w : Int) * B.s) (2 * N + B.T) (2 * N) Y.C now).ph = 0 → PA B.so (2 * N + B.T) (k.cells N (2 * N + B.T) Y.C now) (k.step ((w : Int) * B.s) (2 * N + B.T) (2 * N) Y.C now)):=by
 have hP:=h.put w k i hw
 have hF:=ho.putF hc hT hl hw
 have hok:=hF.ok
 have f1:=hF.who; have f2:=hF.ph; have f5:=hF.lo; have f6:=hF.hi; have f7:=hF.n1; have f8:=hF.wT
 obtain ⟨m0,_⟩:=hc.own hT f8
 have s1:=hc.lay.s1
 have hby : (Wk.pu k).by' w:=f1
 have hkok : (Wk.pu k).Ok (plOf B N w) Y.C:=hok
 have hnot : Noted w Y.C (k.cells N (2 * N + B.T) Y.C now) (k.ev N (2 * N + B.T) (2 * N) Y.C now):=Wk.noted (T:=.pu k) (P:=plOf B N w) (now:=now) hkok hby
 have hev : ∀ e ∈ k.ev N (2 * N + B.T) (2 * N) Y.C now,EvAt B N Y w e:=fun e he=>by
  rcases hnot with ⟨h0,_⟩ | ⟨x,hx,hN⟩
  ·rw [h0] at he
   cases he
  ·rw [hx] at he
   cases List.mem_singleton.1 he
   exact EvAt.of hl f8 hN
 have hnp : ¬ k.ph ≠ 0:=by omega
 have hown:=zEB s1 f5 f6
 rcases hok.at' f2 with ⟨a1,a2,a3⟩ | ⟨a1,a2,a3⟩ | ⟨a1,a2,a3⟩ | ⟨a1,a2,a3⟩
 ·have e1 : k.ev N (2 * N + B.T) (2 * N) Y.C now = k.cl.ev (2 * N) Y.C:=by unfold Pu.ev; rw [if_neg hnp,if_pos a1]
  have e2 : k.cells N (2 * N + B.T) Y.C now = Y.C:=by unfold Pu.cells; rw [if_neg hnp,if_pos a1]
  have e3 : k.step ((w : Int) * B.s) (2 * N + B.T) (2 * N) Y.C now = ({ k with cl:=k.cl.step ((w : Int) * B.s) (2 * N) Y.C } : Pu).after (k.cl.step ((w : Int) * B.s) (2 * N) Y.C).ph:=by unfold Pu.step; rw [if_neg hnp,if_pos a1]
  rw [e2]
  refine ⟨fun e he=>?_,.same,fun hp=>?_⟩
  ·have hE:=hev e he
   rw [e1] at he
   unfold Cl.ev at he
   rw [if_pos a2] at he
   have:=List.mem_singleton.1 he
   subst this
   refine h.may hT hl hE ?_
   have g0:=hok.cl.g0; have g1:=hok.cl.g1
   have hct:=hok.ct
   have hkt:=hF.t
   show if ((k.cl.cell (2 * N) : Nat) : Int) < N then _ else if ((k.cl.cell (2 * N) : Nat) : Int) < 2 * N then _ else if ((k.cl.cell (2 * N) : Nat) : Int) < 2 * N + B.t then _ else _
   unfold Cl.cell
   by_cases hs : k.cl.steps = 0
   ·rw [if_pos hs,if_pos (by omega)]
    exact .inl rfl
   ·rw [if_neg hs,if_neg (by omega),if_neg (by omega),if_pos (by omega)]
    exact .inl rfl
  ·rw [e3] at hp ⊢
   have hcl : (({ k with cl:=k.cl.step ((w : Int) * B.s) (2 * N) Y.C } : Pu).after (k.cl.step ((w : Int) * B.s) (2 * N) Y.C).ph).cl = k.cl.step ((w : Int) * B.s) (2 * N) Y.C:=Pu.after_cl _ _
   have htk : (({ k with cl:=k.cl.step ((w : Int) * B.s) (2 * N) Y.C } : Pu).after (k.cl.step ((w : Int) * B.s) (2 * N) Y.C).ph).tk = k.tk:=Pu.after_tk _ _
   have hwho : (({ k with cl:=k.cl.step ((w : Int) * B.s) (2 * N) Y.C } : Pu).after (k.cl.step ((w : Int) * B.s) (2 * N) Y.C).ph).who = k.who:=(Pu.after_same _ _).who
   have hph : (k.cl.step ((w : Int) * B.s) (2 * N) Y.C).ph ≠ 2:=fun h2=>by
    rw [h2] at hp
    exact absurd hp (by show ¬ (2 : Int) = 0; decide)
   refine ⟨by rw [htk]; exact hP.so',fun _ hq=>?_,fun _ q1 q2 q3=>?_⟩
   ·rw [hcl] at hq ⊢
    revert hq hph
    unfold Cl.step
    rw [if_pos a2]
    by_cases hs : k.cl.steps = 0
    ·rw [if_pos hs,show k.cl.cell (2 * N) = k.cl.slot.toNat from if_pos hs]
     unfold Cl.look
     have hpass : ((k.cl.word (Y.C.getD k.cl.slot.toNat 0)).pass ((w : Int) * B.s)).ph ≠ 2 → (((k.cl.word (Y.C.getD k.cl.slot.toNat 0)).pass ((w : Int) * B.s)).ph = 1 ∨ 1 ≤ ((k.cl.word (Y.C.getD k.cl.slot.toNat 0)).pass ((w : Int) * B.s)).steps) → False:=by
      unfold Cl.pass
      split
      ·intro hq _
       exact hq rfl
      ·intro _ hq
       rcases hq with hq | hq
       ·have hq' : k.cl.ph = 1:=hq
        omega
       ·exact absurd hq (by show ¬ (1 : Int) ≤ 0; decide)
     split
     ·intro h1 h2
      exact (hpass h1 h2).elim
     ·split
      ·rename_i hx
       intro _ _
       exact ⟨by show Y.C.getD k.cl.slot.toNat 0 % 4 ≠ 1; omega,rfl⟩
      ·split
       ·rename_i hx
        intro _ _
        exact ⟨by show Y.C.getD k.cl.slot.toNat 0 % 4 ≠ 1; omega,rfl⟩
       ·intro h1 h2
        exact (hpass h1 h2).elim
    ·rw [if_neg hs]
     have hpre:=hP.word f2 (.inr (by have:=hok.cl.g0; omega))
     unfold Cl.guard
     split
     ·unfold Cl.pass
      split
      ·intro hq _
       exact absurd rfl hq
      ·intro _ hq
       rcases hq with hq | hq
       ·have hq' : k.cl.ph = 1:=hq
        omega
       ·exact absurd hq (by show ¬ (1 : Int) ≤ 0; decide)
     ·split
      ·intro _ _
       exact hpre
      ·intro _ _
       exact hpre
   ·rw [htk,hwho] at q3 ⊢
    rw [htk] at q2
    exact hP.num f2 q1 q2 q3
 ·have e1 : k.ev N (2 * N + B.T) (2 * N) Y.C now = (stp (2 * N + B.T) k.tk Y.C now).2.2.toList:=by unfold Pu.ev; rw [if_neg hnp,if_neg (by omega),if_pos a1]
  have e2 : k.cells N (2 * N + B.T) Y.C now = (stp (2 * N + B.T) k.tk Y.C now).2.1:=by unfold Pu.cells; rw [if_neg hnp,if_neg (by omega),if_pos a1]
  have e3 : k.step ((w : Int) * B.s) (2 * N + B.T) (2 * N) Y.C now = ({ k with tk:=(stp (2 * N + B.T) k.tk Y.C now).1 } : Pu).after (stp (2 * N + B.T) k.tk Y.C now).1.ph:=by unfold Pu.step; rw [if_neg hnp,if_neg (by omega),if_pos a1]
  have htw:=hok.tw
  have htt:=hok.tt
  have hkt:=hF.t
  have hnum : B.so = 1 → k.tk.ph = 0 → k.tk.who < k.tk.steps → low (Y.C.getD (2 * N + B.T + k.tk.who.toNat) 0) ≤ k.tk.seen:=fun q1 q2 q3=>by
   rw [htw] at q3 ⊢
   exact hP.num f2 q1 q2 q3
  refine ⟨fun e he=>?_, ?_,fun hp=>?_⟩
  ·have hE:=hev e he
   rw [e1] at he
   rcases zFx (now:=now) hok.tk hP.so' hfit (fun q1 q2=>hnum q1 a3 q2) with hn | ⟨x,hx,_,x1,x2,_,x3⟩
   ·rw [hn] at he
    cases he
   ·rw [hx] at he
    have : e = x:=List.mem_singleton.1 he
    subst this
    refine h.may hT hl hE ?_
    rw [if_neg (by omega),if_neg (by omega),if_neg (by omega)]
    rw [show e.cell - 2 * N - B.t = e.cell - ((2 * N + B.T : Nat) : Int) by omega]
    exact x3
  ·rw [e2]
   rcases zCG (now:=now) hok.tk hP.so' hfit (fun q1 q2=>hnum q1 a3 q2) with hq | ⟨c,x,hq,h1,h2⟩
   ·rw [hq]
    exact .same
   ·rw [hq]
    exact .number c x h1 (fun hs=>by rw [h2 hs,htw,f1,Int.toNat_natCast])
  ·rw [e3] at hp ⊢
   rw [e2]
   have hcl : (({ k with tk:=(stp (2 * N + B.T) k.tk Y.C now).1 } : Pu).after (stp (2 * N + B.T) k.tk Y.C now).1.ph).cl = k.cl:=Pu.after_cl _ _
   have htk : (({ k with tk:=(stp (2 * N + B.T) k.tk Y.C now).1 } : Pu).after (stp (2 * N + B.T) k.tk Y.C now).1.ph).tk = (stp (2 * N + B.T) k.tk Y.C now).1:=Pu.after_tk _ _
   have hwho : (({ k with tk:=(stp (2 * N + B.T) k.tk Y.C now).1 } : Pu).after (stp (2 * N + B.T) k.tk Y.C now).1.ph).who = k.who:=(Pu.after_same _ _).who
   refine ⟨by rw [htk,stp_so]; exact hP.so',fun _ hq=>?_,fun _ q1 q2 q3=>?_⟩
   ·rw [hcl] at hq ⊢
    have hsame : (stp (2 * N + B.T) k.tk Y.C now).2.1.getD k.cl.slot.toNat 0 = Y.C.getD k.cl.slot.toNat 0:=by
     rcases zCG (now:=now) hok.tk hP.so' hfit (fun q1 q2=>hnum q1 a3 q2) with hq | ⟨c,x,hq,h1,h2⟩
     ·rw [hq]
     ·rw [hq,zAF x (by omega)]
    rw [hsame]
    exact hP.word f2 hq
   ·rw [htk,hwho] at q3 ⊢
    rw [htk] at q2
    have h9:=zIb (now:=now) hok.tk (hP.so'.trans q1) (fun z1 z2=>hnum q1 z1 z2) q2 (by rw [htw]; exact q3)
    rw [htw] at h9
    exact h9
 ·have e1 : k.ev N (2 * N + B.T) (2 * N) Y.C now = [⟨k.who,1,(N + k.cl.slot.toNat : Nat),Y.C.getD (N + k.cl.slot.toNat) 0,k.value,true⟩]:=by unfold Pu.ev; rw [if_neg hnp,if_neg (by omega),if_neg (by omega),if_pos a1]
  have e2 : k.cells N (2 * N + B.T) Y.C now = Y.C.set (N + k.cl.slot.toNat) k.value:=by unfold Pu.cells; rw [if_neg hnp,if_neg (by omega),if_neg (by omega),if_pos a1]
  have e3 : k.step ((w : Int) * B.s) (2 * N + B.T) (2 * N) Y.C now = { k with next:=3 }:=by unfold Pu.step; rw [if_neg hnp,if_neg (by omega),if_neg (by omega),if_pos a1]
  have hpre:=hP.word f2 (.inl a2)
  have hkl : Y.C.length = 2 * N + 2 * B.T:=by omega
  refine ⟨fun e he=>?_, ?_,fun hp=>?_⟩
  ·have hE:=hev e he
   rw [e1] at he
   have:=List.mem_singleton.1 he
   subst this
   refine h.may hT hl hE ?_
   show if ((N + k.cl.slot.toNat : Nat) : Int) < N then _ else if ((N + k.cl.slot.toNat : Nat) : Int) < 2 * N then _ else _
   rw [if_neg (by omega),if_pos (by omega)]
   have ec : ((N + k.cl.slot.toNat : Nat) : Int) - N = k.cl.slot:=by omega
   refine .inr ⟨rfl, ?_, ?_⟩
   ·show k.who = (((N + k.cl.slot.toNat : Nat) : Int) - N) / B.s
    rw [ec,f1]
    exact hown
   ·show lastE Y.L (((N + k.cl.slot.toNat : Nat) : Int) - N) % 4 ≠ 1
    rw [ec,h.last hl (by omega) (by omega)]
    exact hpre.1
  ·rw [e2]
   exact .value _ _ (by omega) (by omega)
  ·rw [e3,e2]
   refine ⟨hP.so',fun q1 q2=>?_,fun _ _ q2 _=>?_⟩
   ·show (Y.C.set (N + k.cl.slot.toNat) k.value).getD k.cl.slot.toNat 0 % 4 ≠ 1 ∧ (Y.C.set (N + k.cl.slot.toNat) k.value).getD k.cl.slot.toNat 0 / 8 % 8192 = k.cl.wg
    rw [zAF _ (by omega)]
    exact hpre
   ·have q2' : k.tk.ph = 0:=q2
    omega
 ·have e1 : k.ev N (2 * N + B.T) (2 * N) Y.C now = [⟨k.who,1,(k.cl.slot.toNat : Nat),Y.C.getD k.cl.slot.toNat 0,k.pack,true⟩]:=by unfold Pu.ev; rw [if_neg hnp,if_neg (by omega),if_neg (by omega),if_neg (by omega)]
  have e2 : k.cells N (2 * N + B.T) Y.C now = Y.C.set k.cl.slot.toNat k.pack:=by unfold Pu.cells; rw [if_neg hnp,if_neg (by omega),if_neg (by omega),if_neg (by omega)]
  have e3 : k.step ((w : Int) * B.s) (2 * N + B.T) (2 * N) Y.C now = { k with ph:=1 }:=by unfold Pu.step; rw [if_neg hnp,if_neg (by omega),if_neg (by omega),if_neg (by omega)]
  have hpre:=hP.word f2 (.inl a2)
  have hg:=hok.wg (.inl a2)
  have hst:=hok.st a3
  have hpp:=zB5 hok.e0 hok.e1 hg.1 hg.2 hst.1 hst.2.1 hst.2.2
  refine ⟨fun e he=>?_, ?_,fun hp=>?_⟩
  ·have hE:=hev e he
   rw [e1] at he
   have:=List.mem_singleton.1 he
   subst this
   refine h.may hT hl hE ?_
   show if ((k.cl.slot.toNat : Nat) : Int) < N then _ else _
   rw [if_pos (by omega)]
   refine .inr (.inl ⟨rfl, ?_,hpre.1,hpp.1, ?_, ?_, ?_⟩)
   ·show k.who = ((k.cl.slot.toNat : Nat) : Int) / B.s
    rw [Int.toNat_of_nonneg (by omega),f1]
    exact hown
   ·show k.pack / 8 % 8192 = Y.C.getD k.cl.slot.toNat 0 / 8 % 8192 + 1
    rw [hpre.2]
    exact hpp.2.1
   ·show k.pack / 65536 % 16777216 ≤ k.pack / 1099511627776
    unfold Pu.pack
    rw [hpp.2.2.1,hpp.2.2.2]
    exact hst.2.1
   ·show k.pack / 1099511627776 < 16777215
    unfold Pu.pack
    rw [hpp.2.2.2]
    exact hst.2.2
  ·rw [e2]
   exact .word k i hw a2 k.pack
  ·rw [e3] at hp
   exact absurd hp (by show ¬ (1 : Int) = 0; decide)
end
section
variable {B : YB} {N n : Nat} {Y Y' : Yd} {w : Nat}
theorem AOk.putCross (h : AOk B N Y) (ho : YOk (plOf B N) B.T n Y) (hc : YCf B N) (hT : (B.T : Int) = B.t) (hl : (Y.C.length : Int) = 2 * N + 2 * B.t) {k : Pu} {i : Nat} (hw : Y.ts[w]? = some (some (.pu k,i))) (now : Int)
  {v : Nat} {g : Ge} {j : Nat} {a : Ta} (hg : Y.ts[v]? = some (some (.ge g,j))) (ha : g.ta = some a) (hn : a.next = 2) (hs : (k.step ((w : Int) * B.s) (2 * N + B.T) (2 * N) Y.C now).cl.slot = a.slot) :
  ¬ (k.step ((w : Int) * B.s) (2 * N + B.T) (2 * N) Y.C now).past a.who:=by
 have hF:=ho.putF hc hT hl hw
 have hok:=hF.ok
 have f2:=hF.ph
 have hG:=ho.getF hg
 obtain ⟨b1,b2,b3,b4,b5⟩:=hG.ta a ha
 have b6:=hG.wT
 have hA:=h.get v g j a hg ha
 have hz:=hA.hz (.inr hn)
 obtain ⟨hword,_⟩:=hA.word hn
 have hlive:=hA.live
 have htk:=(zAj b5.x0).1
 have hx12 : Y.C.getD a.slot.toNat 0 % 4 = 1 ∨ Y.C.getD a.slot.toNat 0 % 4 = 2:=by
  rcases hword with hq | hq <;> rw [hq]
  ·exact .inl hlive
  ·exact .inr htk
 have hcr:=h.cross v g j a hg ha hn w k i hw
 have hnp : ¬ k.ph ≠ 0:=by omega
 have hkt:=hF.t
 have hct:=hok.ct
 rintro ⟨p1,p2⟩
 rcases hok.at' f2 with ⟨a1,a2,a3⟩ | ⟨a1,a2,a3⟩ | ⟨a1,a2,a3⟩ | ⟨a1,a2,a3⟩
 ·have e3 : k.step ((w : Int) * B.s) (2 * N + B.T) (2 * N) Y.C now = ({ k with cl:=k.cl.step ((w : Int) * B.s) (2 * N) Y.C } : Pu).after (k.cl.step ((w : Int) * B.s) (2 * N) Y.C).ph:=by unfold Pu.step; rw [if_neg hnp,if_pos a1]
  rw [e3] at p1 p2 hs
  rw [Pu.after_cl] at p2 hs
  have hph : (k.cl.step ((w : Int) * B.s) (2 * N) Y.C).ph ≠ 2:=fun h2=>by
   rw [h2] at p1
   exact absurd p1 (by show ¬ (2 : Int) = 0; decide)
  have hpass : ∀ c : Cl,c.ph = 0 → (c.pass ((w : Int) * B.s)).ph ≠ 2 → ((c.pass ((w : Int) * B.s)).ph = 1 ∨ a.who < (c.pass ((w : Int) * B.s)).steps - 1) → False:=fun c hc0=>by
   unfold Cl.pass
   split
   ·intro hq _
    exact hq rfl
   ·intro _ hq
    rcases hq with hq | hq
    ·have hq' : c.ph = 1:=hq
     omega
    ·have hq' : a.who < (0 : Int) - 1:=hq
     omega
  revert hph p2 hs
  unfold Cl.step
  rw [if_pos a2]
  by_cases hst : k.cl.steps = 0
  ·rw [if_pos hst,show k.cl.cell (2 * N) = k.cl.slot.toNat from if_pos hst]
   unfold Cl.look
   split
   ·intro q2 q1 q3
    exact hpass (k.cl.word _) a2 q3 q1
   ·split
    ·rename_i hx
     intro q2 q1 q3
     have q2' : k.cl.slot = a.slot:=q2
     rw [q2'] at hx
     omega
    ·split
     ·intro q2 q1 q3
      rcases q1 with q1 | q1
      ·have q1' : k.cl.ph = 1:=q1
       omega
      ·have q1' : a.who < (1 : Int) - 1:=q1
       omega
     ·intro q2 q1 q3
      exact hpass (k.cl.word _) a2 q3 q1
  ·rw [if_neg hst,show k.cl.cell (2 * N) = 2 * N + (k.cl.steps - 1).toNat from if_neg hst]
   have hg0:=hok.cl.g0
   have hg1:=hok.cl.g1
   have hkey : k.cl.slot = a.slot → a.who = k.cl.steps - 1 → Y.C.getD (2 * N + (k.cl.steps - 1).toNat) 0 = k.cl.slot + 1:=fun q1 q2=>by rw [← q2,q1]; exact hz
   unfold Cl.guard
   split
   ·intro q2 q1 q3
    exact hpass k.cl a2 q3 q1
   ·rename_i hx
    split
    ·rename_i hst2
     intro q2 q1 q3
     have q2' : k.cl.slot = a.slot:=q2
     rcases (by omega : a.who = k.cl.steps - 1 ∨ a.who < k.cl.steps - 1) with hq | hq
     ·exact hx (hkey q2' hq)
     ·exact hcr q2' ⟨f2,.inr hq⟩
    ·intro q2 q1 q3
     have q2' : k.cl.slot = a.slot:=q2
     rcases q1 with q1 | q1
     ·have q1' : k.cl.ph = 1:=q1
      omega
     ·have q1' : a.who < k.cl.steps + 1 - 1:=q1
      rcases (by omega : a.who = k.cl.steps - 1 ∨ a.who < k.cl.steps - 1) with hq | hq
      ·exact hx (hkey q2' hq)
      ·exact hcr q2' ⟨f2,.inr hq⟩
 ·have e3 : k.step ((w : Int) * B.s) (2 * N + B.T) (2 * N) Y.C now = ({ k with tk:=(stp (2 * N + B.T) k.tk Y.C now).1 } : Pu).after (stp (2 * N + B.T) k.tk Y.C now).1.ph:=by unfold Pu.step; rw [if_neg hnp,if_neg (by omega),if_pos a1]
  rw [e3,Pu.after_cl] at p2 hs
  exact hcr hs ⟨f2,p2⟩
 ·have e3 : k.step ((w : Int) * B.s) (2 * N + B.T) (2 * N) Y.C now = { k with next:=3 }:=by unfold Pu.step; rw [if_neg hnp,if_neg (by omega),if_neg (by omega),if_pos a1]
  rw [e3] at p2 hs
  exact hcr hs ⟨f2,p2⟩
 ·have e3 : k.step ((w : Int) * B.s) (2 * N + B.T) (2 * N) Y.C now = { k with ph:=1 }:=by unfold Pu.step; rw [if_neg hnp,if_neg (by omega),if_neg (by omega),if_neg (by omega)]
  rw [e3] at p1
  exact absurd p1 (by show ¬ (1 : Int) = 0; decide)
theorem AOk.getStep (h : AOk B N Y) (ho : YOk (plOf B N) B.T n Y) (hc : YCf B N) (hT : (B.T : Int) = B.t) (hl : (Y.C.length : Int) = 2 * N + 2 * B.t) {k : Ge} {i : Nat} (hw : Y.ts[w]? = some (some (.ge k,i))) {z : Int} (hz : k.ask Y.C z) :
  (∀ e ∈ k.ev N (2 * N + w) Y.C,May B.t B.s B.so N Y.L e) ∧ Eff B N Y w (k.cells N (2 * N + w) Y.C) ∧
   ∀ a,(k.step N (2 * N + w) Y.C z).ta = some a → (k.step N (2 * N + w) Y.C z).ph = 0 → TA N (k.cells N (2 * N + w) Y.C) (Y.L ++ k.ev N (2 * N + w) Y.C) a ∧ (a.next = 2 → a.who = w ∧ 0 ≤ a.slot ∧ Y.C.getD a.slot.toNat 0 % 4 = 1):=by
 have hF:=ho.getF hw
 have hok:=hF.ok
 have f2:=hF.ph
 have f8:=hF.wT
 have hnp : ¬ k.ph ≠ 0:=by omega
 have hby : (Wk.ge k).by' w:=⟨hF.who,hF.sw,fun a ha=>(hF.ta a ha).1⟩
 have hkok : (Wk.ge k).Ok (plOf B N w) Y.C:=(ho.task w _ i hw).1
 have hnot : Noted w Y.C (k.cells N (2 * N + w) Y.C) (k.ev N (2 * N + w) Y.C):=Wk.noted (T:=.ge k) (P:=plOf B N w) (now:=0) hkok hby
 have hev : ∀ e ∈ k.ev N (2 * N + w) Y.C,EvAt B N Y w e:=fun e he=>by
  rcases hnot with ⟨h0,_⟩ | ⟨x,hx,hN⟩
  ·rw [h0] at he
   cases he
  ·rw [hx] at he
   cases List.mem_singleton.1 he
   exact EvAt.of hl f8 hN
 cases hta : k.ta with
 | none =>
  have e1 : k.ev N (2 * N + w) Y.C = k.sn.ev Y.C:=by unfold Ge.ev; rw [if_neg hnp,hta]
  have e2 : k.cells N (2 * N + w) Y.C = Y.C:=by unfold Ge.cells; rw [if_neg hnp,hta]
  have e3 : k.step N (2 * N + w) Y.C z = k.read (k.sn.step Y.C) z:=by unfold Ge.step; rw [if_neg hnp,hta]
  obtain ⟨hsn,hsp⟩:=hok.sn f2 hta
  rw [e2,e3]
  refine ⟨fun e he=>?_,.same,fun a ha hp=>?_⟩
  ·have hE:=hev e he
   rw [e1] at he
   unfold Sn.ev at he
   rw [if_pos hsp] at he
   have:=List.mem_singleton.1 he
   subst this
   refine h.may hT hl hE ?_
   have hslt : k.sn.slot < N:=by
    have q1:=hsn.s0; have q2:=hsn.r0; have q3:=hsn.s1; have q4:=hsn.N
    unfold Sn.slot
    have:=Int.emod_nonneg (k.sn.start + k.sn.read) (show (k.sn.N : Int) ≠ 0 by omega)
    have:=Int.emod_lt_of_pos (k.sn.start + k.sn.read) (show 0 < (k.sn.N : Int) by omega)
    omega
   show if ((k.sn.slot : Nat) : Int) < N then _ else _
   rw [if_pos (by omega)]
   exact .inl rfl
  ·revert ha hp
   unfold Ge.read
   split
   ·intro ha _
    have ha' : k.ta = some a:=ha
    rw [hta] at ha'
    cases ha'
   ·split
    ·intro _ hp
     exact absurd hp (by show ¬ (2 : Int) = 0; decide)
    ·rename_i hsn1 hz0
     intro ha _
     cases ha
     have hE:=hz f2 hta (Classical.not_not.1 hsn1)
     refine ⟨⟨?_,fun hh=>by rcases hh with hh | hh <;> exact absurd hh (by show ¬ (0 : Int) = _; decide),fun hh=>absurd hh (by show ¬ (0 : Int) = 2; decide)⟩,fun hh=>absurd hh (by show ¬ (0 : Int) = 2; decide)⟩
     rcases hE with ⟨hz1,_⟩ | ⟨q,rfl,_,hq,_⟩
     ·omega
     ·show (k.sn.step Y.C).X.getD (q : Int).toNat 0 % 4 = 1
      rw [Int.toNat_natCast]
      exact hq
 | some a =>
  obtain ⟨b1,b2,b3,b4,b5⟩:=hF.ta a hta
  have hA:=h.get w k i a hw hta
  have e1 : k.ev N (2 * N + w) Y.C = a.ev a.slot.toNat (N + a.slot.toNat) (2 * N + w) Y.C:=by unfold Ge.ev; rw [if_neg hnp,hta]
  have e2 : k.cells N (2 * N + w) Y.C = a.cells a.slot.toNat (2 * N + w) Y.C:=by unfold Ge.cells; rw [if_neg hnp,hta]
  have e3 : k.step N (2 * N + w) Y.C z = k.grab N (a.go a.slot.toNat (N + a.slot.toNat) Y.C):=by unfold Ge.step; rw [if_neg hnp,hta]
  have on : ∀ a' : Ta,a.go a.slot.toNat (N + a.slot.toNat) Y.C = a' → a'.ph = 0 → (k.step N (2 * N + w) Y.C z).ta = some a':=fun a' g hp'=>by
   rw [e3,g]
   unfold Ge.grab
   rw [if_neg (by omega),if_neg (by omega)]
  have hlen : Y.C.length = 2 * N + 2 * B.T:=by omega
  have hword : ∀ {x : Ev},x ∈ k.ev N (2 * N + w) Y.C → x.cell = (a.slot.toNat : Nat) → MayW B.s x → May B.t B.s B.so N Y.L x:=fun {x} hx hx2 hm=>by
   refine h.may hT hl (hev x hx) ?_
   rw [if_pos (by omega)]
   exact hm
  have hhz : ∀ {x : Ev},x ∈ k.ev N (2 * N + w) Y.C → x.cell = ((2 * N + w : Nat) : Int) → x.who = w → x.op = 1 → May B.t B.s B.so N Y.L x:=fun {x} hx hx2 hx3 hx4=>by
   refine h.may hT hl (hev x hx) ?_
   rw [if_neg (by omega),if_neg (by omega),if_pos (by omega)]
   exact .inr ⟨hx4,by omega⟩
  rcases b5.st b2 with ⟨hn,hlo⟩ | ⟨hn,hlo⟩ | ⟨hn,hlo⟩ | ⟨hn,hlo⟩ | hn
  ·obtain ⟨g1,g2,g3⟩:=go_0 (j:=a.slot.toNat) (jv:=N + a.slot.toNat) (hz:=2 * N + w) (C:=Y.C) b2 hn
   refine ⟨fun e he=>?_,by rw [e2,g2]; exact .hazard _,fun a' ha' _=>?_⟩
   ·have he':=he
    rw [e1,g3] at he'
    have:=List.mem_singleton.1 he'
    subst this
    exact hhz he rfl b1 rfl
   ·rw [on _ g1 b2] at ha'
    cases ha'
    refine ⟨⟨hA.live,fun _=>?_,fun hh=>absurd hh (by show ¬ (1 : Int) = 2; decide)⟩,fun hh=>absurd hh (by show ¬ (1 : Int) = 2; decide)⟩
    rw [e2,g2]
    show (Y.C.set (2 * N + w) (a.slot + 1)).getD (2 * N + a.who.toNat) 0 = a.slot + 1
    rw [b1,Int.toNat_natCast]
    exact zAL _ (by omega)
  ·by_cases hwd : Y.C.getD a.slot.toNat 0 = a.word
   ·obtain ⟨g1,g2,g3⟩:=go_1y (jv:=N + a.slot.toNat) (hz:=2 * N + w) b2 hn hwd
    refine ⟨fun e he=>?_,by rw [e2,g2]; exact .same,fun a' ha' _=>?_⟩
    ·have he':=he
     rw [e1,g3] at he'
     have:=List.mem_singleton.1 he'
     subst this
     exact hword he rfl (.inl rfl)
    ·rw [on _ g1 b2] at ha'
     cases ha'
     refine ⟨⟨hA.live,fun _=>?_,fun _=>⟨?_, ?_⟩⟩,fun _=>⟨b1,b3, ?_⟩⟩
     ·rw [e2,g2]
      exact hA.hz (.inl hn)
     ·rw [e2,g2]
      exact .inl hwd
     ·rw [e1,g3,zCm,if_pos ⟨rfl,by show ((a.slot.toNat : Nat) : Int) = a.slot; omega,rfl⟩]
      exact congrArg some hwd
     ·show Y.C.getD a.slot.toNat 0 % 4 = 1
      rw [hwd]
      exact hA.live
   ·obtain ⟨g1,g2,g3⟩:=go_1n (jv:=N + a.slot.toNat) (hz:=2 * N + w) b2 hn hwd
    refine ⟨fun e he=>?_,by rw [e2,g2]; exact .same,fun a' ha' _=>?_⟩
    ·have he':=he
     rw [e1,g3] at he'
     have:=List.mem_singleton.1 he'
     subst this
     exact hword he rfl (.inl rfl)
    ·rw [on _ g1 b2] at ha'
     cases ha'
     exact ⟨⟨hA.live,fun hh=>by rcases hh with hh | hh <;> exact absurd hh (by show ¬ (4 : Int) = _; decide),fun hh=>absurd hh (by show ¬ (4 : Int) = 2; decide)⟩,fun hh=>absurd hh (by show ¬ (4 : Int) = 2; decide)⟩
  ·obtain ⟨g1,g2,g3⟩:=go_2 (j:=a.slot.toNat) (jv:=N + a.slot.toNat) (hz:=2 * N + w) (C:=Y.C) b2 hn
   refine ⟨fun e he=>?_,by rw [e2,g2]; exact .same,fun a' ha' _=>?_⟩
   ·have hE:=hev e he
    have he':=he
    rw [e1,g3] at he'
    have:=List.mem_singleton.1 he'
    subst this
    refine h.may hT hl hE ?_
    show if ((N + a.slot.toNat : Nat) : Int) < N then _ else if ((N + a.slot.toNat : Nat) : Int) < 2 * N then _ else _
    rw [if_neg (by omega),if_pos (by omega)]
    have ec : ((N + a.slot.toNat : Nat) : Int) - N = a.slot:=by omega
    obtain ⟨hw1,hw2⟩:=hA.word hn
    refine .inl ⟨rfl,⟨a.word, ?_, ?_⟩, ?_⟩
    ·show loadE Y.L a.who (((N + a.slot.toNat : Nat) : Int) - N) = some a.word
     rw [ec]
     exact hw2
    ·show a.word / 8 % 8192 = lastE Y.L (((N + a.slot.toNat : Nat) : Int) - N) / 8 % 8192
     rw [ec,h.last hl b3 (by omega)]
     rcases hw1 with hq | hq
     ·rw [hq]
     ·rw [hq]
      exact (zAj b5.x0).2.2.1.symm
    ·show lastE Y.L (2 * N + a.who) = ((N + a.slot.toNat : Nat) : Int) - N + 1
     rw [ec,h.last hl (by omega) (by omega),show (2 * (N : Int) + a.who).toNat = 2 * N + a.who.toNat by omega]
     exact hA.hz (.inr hn)
   ·rw [on _ g1 b2] at ha'
    cases ha'
    exact ⟨⟨hA.live,fun hh=>by rcases hh with hh | hh <;> exact absurd hh (by show ¬ (3 : Int) = _; decide),fun hh=>absurd hh (by show ¬ (3 : Int) = 2; decide)⟩,fun hh=>absurd hh (by show ¬ (3 : Int) = 2; decide)⟩
  ·by_cases hwd : Y.C.getD a.slot.toNat 0 = a.word
   ·obtain ⟨g1,g2,g3⟩:=go_3y (jv:=N + a.slot.toNat) (hz:=2 * N + w) b2 hn hwd
    have hp:=zAj b5.x0
    refine ⟨fun e he=>?_, ?_,fun a' ha' _=>?_⟩
    ·have he':=he
     rw [e1,g3] at he'
     have:=List.mem_singleton.1 he'
     subst this
     exact hword he rfl (.inr (.inr ⟨rfl,.inr ⟨hA.live,hp.1,hp.2.1,hp.2.2.1,hp.2.2.2.1,hp.2.2.2.2⟩⟩))
    ·rw [e2,g2, ← hwd]
     exact .taken _ (by omega) (by rw [hwd]; exact hA.live)
    ·rw [on _ g1 b2] at ha'
     cases ha'
     exact ⟨⟨hA.live,fun hh=>by rcases hh with hh | hh <;> exact absurd hh (by show ¬ (4 : Int) = _; decide),fun hh=>absurd hh (by show ¬ (4 : Int) = 2; decide)⟩,fun hh=>absurd hh (by show ¬ (4 : Int) = 2; decide)⟩
   ·obtain ⟨g1,g2,g3⟩:=go_3n (jv:=N + a.slot.toNat) (hz:=2 * N + w) b2 hn hwd
    refine ⟨fun e he=>?_,by rw [e2,g2]; exact .same,fun a' ha' _=>?_⟩
    ·have he':=he
     rw [e1,g3] at he'
     have:=List.mem_singleton.1 he'
     subst this
     exact hword he rfl (.inr (.inr ⟨rfl,.inl rfl⟩))
    ·rw [on _ g1 b2] at ha'
     cases ha'
     exact ⟨⟨hA.live,fun hh=>by rcases hh with hh | hh <;> exact absurd hh (by show ¬ (4 : Int) = _; decide),fun hh=>absurd hh (by show ¬ (4 : Int) = 2; decide)⟩,fun hh=>absurd hh (by show ¬ (4 : Int) = 2; decide)⟩
  ·by_cases hlo : a.lost = true
   ·obtain ⟨g1,g2,g3⟩:=go_4n (j:=a.slot.toNat) (jv:=N + a.slot.toNat) (hz:=2 * N + w) (C:=Y.C) b2 hn hlo
    refine ⟨fun e he=>?_,by rw [e2,g2]; exact .hazard _,fun a' ha' _=>?_⟩
    ·have he':=he
     rw [e1,g3] at he'
     have:=List.mem_singleton.1 he'
     subst this
     exact hhz he rfl b1 rfl
    ·rw [e3,g1] at ha'
     unfold Ge.grab at ha'
     rw [if_neg (by show ¬ (2 : Int) = 1; decide),if_pos rfl] at ha'
     cases ha'
   ·obtain ⟨g1,g2,g3⟩:=go_4y (j:=a.slot.toNat) (jv:=N + a.slot.toNat) (hz:=2 * N + w) (C:=Y.C) b2 hn (by simpa using hlo)
    refine ⟨fun e he=>?_,by rw [e2,g2]; exact .hazard _,fun a' _ hp=>?_⟩
    ·have he':=he
     rw [e1,g3] at he'
     have:=List.mem_singleton.1 he'
     subst this
     exact hhz he rfl b1 rfl
    ·rw [e3,g1] at hp
     unfold Ge.grab at hp
     rw [if_pos rfl] at hp
     exact absurd hp (by show ¬ (1 : Int) = 0; decide)
end
section
variable {B : YB} {N n : Nat} {Y Y' : Yd}
theorem zAk {P : Pl} {w : Nat} {T : Wk} {i : Nat} {z : Int} {v : Nat} {T' : Wk} {i' : Nat} (h : (Y.step P w T i z).ts[v]? = some (some (T',i'))) : (v = w ∧ T' = T.step P Y.C Y.now z ∧ (T.step P Y.C Y.now z).ph = 0) ∨ (v ≠ w ∧ Y.ts[v]? = some (some (T',i'))):=by
 have h' : (if (T.step P Y.C Y.now z).ph = 0 then Y.ts.set w (some (T.step P Y.C Y.now z,i)) else Y.ts.set w Option.none)[v]? = some (some (T',i')):=h
 split at h'
 ·rename_i hp
  rcases yset h' with ⟨e1,e2,_⟩ | ⟨e1,e2⟩
  ·cases e2
   exact .inl ⟨e1.symm,rfl,hp⟩
  ·exact .inr ⟨fun e=>e1 e.symm,e2⟩
 ·rcases yset h' with ⟨_,e2,_⟩ | ⟨e1,e2⟩
  ·cases e2
  ·exact .inr ⟨fun e=>e1 e.symm,e2⟩
theorem zBQ {w : Nat} {kd e x s : Int} {T : Wk} {v : Nat} {T' : Wk} {i' : Nat} (h : (Y.call w kd e x s T).ts[v]? = some (some (T',i'))) : (v = w ∧ T' = T) ∨ (v ≠ w ∧ Y.ts[v]? = some (some (T',i'))):=by
 rcases yset h with ⟨e1,e2,_⟩ | ⟨e1,e2⟩
 ·cases e2
  exact .inl ⟨e1.symm,rfl⟩
 ·exact .inr ⟨fun e=>e1 e.symm,e2⟩
theorem zC7 {k : Nat} {take : Bool} {e x s : Int} {p : Pu} (h : (Wk.pu p) = wkB B N k take e x s) : p = pu0 B.t B.s B.so B.d k e x ((k : Int) * B.s):=by
 cases take with
 | true=>cases h
 | false=>cases h; rfl
theorem zGk {k : Nat} {take : Bool} {e x s : Int} {g : Ge} (h : (Wk.ge g) = wkB B N k take e x s) : g = ge0 B.t B.s B.so B.d k e s N:=by
 cases take with
 | true=>cases h; rfl
 | false=>cases h
theorem AOk.next (h : AOk B N Y) (ho : YOk (plOf B N) B.T n Y) (hc : YCf B N) (hT : (B.T : Int) = B.t) (hl : (Y.C.length : Int) = 2 * N + 2 * B.t) (hfit : ∀ j,0 ≤ Y.C.getD j 0 ∧ Y.C.getD j 0 ≤ 18446744073709551615) (hm : YHow B N Y Y') : AOk B N Y':=by
 cases hm with
 | rest=>exact h
 | pass m hm=>exact ⟨h.cells,h.all,h.put,h.get,h.cross⟩
 | call w take kd e x s hw he hk =>
  refine ⟨h.cells,h.all,fun v p i hp=>?_,fun v g i a hg ha=>?_,fun v g i a hg ha hn v2 p j hp hs=>?_⟩
  ·rcases zBQ hp with ⟨rfl,hq⟩ | ⟨_,hq⟩
   ·have:=zC7 hq
    subst this
    refine ⟨rfl,fun _ hh=>?_,fun _ _ _ hh=>?_⟩
    ·rcases hh with hh | hh
     ·exact absurd hh (by show ¬ (0 : Int) = 1; decide)
     ·exact absurd hh (by show ¬ (1 : Int) ≤ 0; decide)
    ·have hh' : (v : Int) < 0:=hh
     omega
   ·exact h.put v p i hq
  ·rcases zBQ hg with ⟨rfl,hq⟩ | ⟨_,hq⟩
   ·have:=zGk hq
    subst this
    cases ha
   ·exact h.get v g i a hq ha
  ·rcases zBQ hg with ⟨rfl,hq⟩ | ⟨_,hq⟩
   ·have:=zGk hq
    subst this
    cases ha
   ·rcases zBQ hp with ⟨rfl,hq2⟩ | ⟨_,hq2⟩
    ·have:=zC7 hq2
     subst this
     obtain ⟨b1,_⟩:=(ho.getF hq).ta a ha
     rintro ⟨_,hh | hh⟩
     ·exact absurd hh (by show ¬ (0 : Int) = 1; decide)
     ·have hh' : a.who < (0 : Int) - 1:=hh
      omega
    ·exact h.cross v g i a hq ha hn v2 p j hq2 hs
 | step w T i z hw ha =>
  obtain ⟨k1,k2,k3,k4,_⟩:=ho.task w T i hw
  have hwT : w < B.T:=by rw [← ho.len]; exact (List.getElem?_eq_some_iff.1 hw).1
  have hnot : Noted w Y.C (T.cells (plOf B N w) Y.C Y.now) (T.ev (plOf B N w) Y.C Y.now):=Wk.noted k1 k3
  have hfit0 : ∀ j,0 ≤ Y.C.getD j 0:=fun j=>(hfit j).1
  have hEw : ∀ x ∈ T.ev (plOf B N w) Y.C Y.now,x.who = w:=fun x hx=>by
   rcases hnot with ⟨h0,_⟩ | ⟨y,hy,hN⟩
   ·rw [h0] at hx
    cases hx
   ·rw [hy] at hx
    cases List.mem_singleton.1 hx
    exact hN.who'
  have hE1 : (T.ev (plOf B N w) Y.C Y.now).length ≤ 1:=by
   rcases hnot with ⟨h0,_⟩ | ⟨y,hy,_⟩
   ·rw [h0]
    exact Nat.zero_le _
   ·rw [hy]
    exact Nat.le_refl _
  have hparts : (∀ x ∈ T.ev (plOf B N w) Y.C Y.now,May B.t B.s B.so N Y.L x) ∧ Eff B N Y w (T.cells (plOf B N w) Y.C Y.now) ∧
    (∀ p,T.step (plOf B N w) Y.C Y.now z = .pu p → p.ph = 0 → PA B.so (2 * N + B.T) (T.cells (plOf B N w) Y.C Y.now) p) ∧
    (∀ g a,T.step (plOf B N w) Y.C Y.now z = .ge g → g.ph = 0 → g.ta = some a → TA N (T.cells (plOf B N w) Y.C Y.now) (Y.L ++ T.ev (plOf B N w) Y.C Y.now) a ∧ (a.next = 2 → a.who = w ∧ 0 ≤ a.slot ∧ Y.C.getD a.slot.toNat 0 % 4 = 1)):=by
   cases T with
   | pu k =>
    obtain ⟨q1,q2,q3⟩:=h.putStep ho hc hT hl hfit hw Y.now
    exact ⟨q1,q2,fun p hp h0=>by cases hp; exact q3 h0,(fun g a hg=>by cases hg)⟩
   | ge k =>
    obtain ⟨q1,q2,q3⟩:=h.getStep ho hc hT hl hw ha
    exact ⟨q1,q2,(fun p hp=>by cases hp),fun g a hg h0 hga=>by cases hg; exact q3 a hga h0⟩
  obtain ⟨m1,m2,m3,m4⟩:=hparts
  refine ⟨?_, ?_,fun v p j hp=>?_,fun v g j a hg hga=>?_,fun v g j a hg hga hn v2 p j2 hp hs=>?_⟩
  ·show ∀ q : Nat,q < (T.cells (plOf B N w) Y.C Y.now).length → lastE (Y.L ++ T.ev (plOf B N w) Y.C Y.now) (q : Int) = (T.cells (plOf B N w) Y.C Y.now).getD q 0
   exact zFX hnot h.cells
  ·show AllMay B.t B.s B.so N (Y.L ++ T.ev (plOf B N w) Y.C Y.now)
   rcases hnot with ⟨h0,_⟩ | ⟨y,hy,_⟩
   ·rw [h0,List.append_nil]
    exact h.all
   ·rw [hy] at m1 ⊢
    exact h.all.snoc (m1 y (List.mem_singleton.2 rfl))
  ·show PA B.so (2 * N + B.T) (T.cells (plOf B N w) Y.C Y.now) p
   rcases zAk hp with ⟨rfl,hq,h0⟩ | ⟨hv,hq⟩
   ·exact m3 p hq.symm (by rw [← hq] at h0; exact h0)
   ·exact m2.puts h ho hc hT hl hwT hv hq
  ·show TA N (T.cells (plOf B N w) Y.C Y.now) (Y.L ++ T.ev (plOf B N w) Y.C Y.now) a
   rcases zAk hg with ⟨rfl,hq,h0⟩ | ⟨hv,hq⟩
   ·exact (m4 g a hq.symm (by rw [← hq] at h0; exact h0) hga).1
   ·exact m2.gets h ho hc hT hl hwT hfit0 hEw hv hq hga hE1
  ·rcases zAk hg with ⟨rfl,hq,h0⟩ | ⟨hv,hq⟩
   ·obtain ⟨_,hlast⟩:=m4 g a hq.symm (by rw [← hq] at h0; exact h0) hga
    obtain ⟨c1,c2,c3⟩:=hlast hn
    rcases zAk hp with ⟨rfl,hq2,_⟩ | ⟨hv2,hq2⟩
    ·rw [← hq] at hq2
     cases hq2
    ·rintro ⟨r1,r2⟩
     have:=((h.put v2 p j2 hq2).word r1 (by
      rcases r2 with r2 | r2
      ·exact .inl r2
      ·exact .inr (by omega))).1
     rw [hs] at this
     exact this c3
   ·rcases zAk hp with ⟨rfl,hq2,_⟩ | ⟨hv2,hq2⟩
    ·cases T with
     | pu k =>
      cases hq2
      exact h.putCross ho hc hT hl hw Y.now hq hga hn hs
     | ge k=>cases hq2
    ·exact h.cross v g j a hq hga hn v2 p j2 hq2 hs
end
end
section
open Go.RowKit
def cntN (p : Nat → Bool) : Nat → Nat
 | 0=>0
 | n + 1=>cntN p n + if p n = true then 1 else 0
theorem zCh {p q : Nat → Bool} : ∀ {n : Nat},(∀ j,j < n → q j = p j) → cntN q n = cntN p n
 | 0,_=>rfl
 | n + 1,h=>by
  rw [cntN,cntN,zCh (fun j hj=>h j (by omega)),h n (by omega)]
theorem zDF {p q : Nat → Bool} {c : Nat} : ∀ {n : Nat},c < n → (∀ j,j ≠ c → q j = p j) → cntN q n + (if p c = true then 1 else 0) = cntN p n + (if q c = true then 1 else 0)
 | 0,hc,_=>by omega
 | n + 1,hc,h=>by
  rw [cntN,cntN]
  by_cases e : c = n
  ·subst e
   rw [zCh (fun j hj=>h j (by omega))]
   omega
  ·have ih:=zDF (n:=n) (by omega) h
   rw [h n (fun e2=>e e2.symm)]
   omega
def stN (st : Int) (C : List Int) (N : Nat) : Nat:=cntN (fun j=>decide (C.getD j 0 % 4 = st)) N
section
variable {C : List Int} {N c : Nat} {x : Int}
theorem zBn (h : N ≤ c) : stN 1 (C.set c x) N = stN 1 C N:=zCh (fun j hj=>by show decide _ = decide _; rw [zAF x (by omega)])
theorem zIc (hc : c < N) (hl : c < C.length) (h0 : C.getD c 0 % 4 ≠ 1) (h1 : x % 4 = 1) : stN 1 (C.set c x) N = stN 1 C N + 1:=by
 have:=zDF (p:=fun j=>decide (C.getD j 0 % 4 = 1)) (q:=fun j=>decide ((C.set c x).getD j 0 % 4 = 1)) hc (fun j hj=>by show decide _ = decide _; rw [zAF x (fun e=>hj e.symm)])
 simp only [decide_eq_true_eq,zAL x hl] at this
 rw [if_neg h0,if_pos h1] at this
 exact this
theorem zG1 (hc : c < N) (hl : c < C.length) (h0 : C.getD c 0 % 4 = 1) (h1 : x % 4 ≠ 1) : stN 1 (C.set c x) N + 1 = stN 1 C N:=by
 have:=zDF (p:=fun j=>decide (C.getD j 0 % 4 = 1)) (q:=fun j=>decide ((C.set c x).getD j 0 % 4 = 1)) hc (fun j hj=>by show decide _ = decide _; rw [zAF x (fun e=>hj e.symm)])
 simp only [decide_eq_true_eq,zAL x hl] at this
 rw [if_pos h0,if_neg h1] at this
 exact this
end
def cntL {α : Type} (p : α → Bool) (l : List α) : Nat:=l.countP p
section
variable {α : Type} {p : α → Bool} {l : List α} {i : Nat} {a b : α}
theorem zBt : cntL p (l ++ [a]) = cntL p l + if p a = true then 1 else 0:=by
 unfold cntL
 rw [List.countP_append,List.countP_singleton]
theorem zAa : ∀ {l : List α} {i : Nat},l[i]? = some a → cntL p (l.set i b) + (if p a = true then 1 else 0) = cntL p l + (if p b = true then 1 else 0)
 | [],i,h=>by simp at h
 | x :: l,0,h=>by
  cases h
  unfold cntL
  rw [List.set_cons_zero,List.countP_cons,List.countP_cons]
  omega
 | x :: l,i + 1,h=>by
  have ih:=zAa (l:=l) (i:=i) h
  unfold cntL at ih ⊢
  rw [List.set_cons_succ,List.countP_cons,List.countP_cons]
  omega
end
def isPut (d : Dd) : Bool:=d.ok && decide (d.kd = 0)
def isHad (d : Dd) : Bool:=d.ok && decide (d.kd = 1)
def isPend (d : Dd) : Bool:=decide (d.till < 0) && decide (d.kd = 1)
def isGe : Option (Wk × Nat) → Bool
 | some (.ge _,_)=>true
 | _=>false
def hasTaken (k : Ge) : Bool:=match k.ta with
 | some a=>decide (a.next = 4) && !a.lost
 | none=>false
def isTaken : Option (Wk × Nat) → Bool
 | some (.ge k,_)=>hasTaken k
 | _=>false
structure COk (B : YB) (N : Nat) (Y : Yd) : Prop where
 st : ∀ j,j < N → Y.C.getD j 0 % 4 ≠ 3
 live : stN 1 Y.C N + cntL isHad Y.ds + cntL isTaken Y.ts = cntL isPut Y.ds
 pend : cntL isPend Y.ds = cntL isGe Y.ts
 kind : ∀ (w : Nat) (T : Wk) (i : Nat) (d : Dd),Y.ts[w]? = some (some (T,i)) → Y.ds[i]? = some d → d.kd = kdI T.take
section
variable {B : YB} {N n : Nat} {Y Y' : Yd}
theorem zDs (p : Option (Wk × Nat) → Bool) (hp : p none = false) (T : Nat) : cntL p (List.replicate T none) = 0:=by
 unfold cntL
 rw [List.countP_eq_zero]
 intro a ha
 rw [List.eq_of_mem_replicate ha,hp]
 decide
theorem COk.start (C : List Int) (hC : ∀ j,C.getD j 0 = 0) (T : Nat) : COk B N ⟨C,[],0,0,List.replicate T none,[]⟩:=by
 refine ⟨fun j _=>by show C.getD j 0 % 4 ≠ 3; rw [hC j]; decide, ?_, ?_,fun w T' i d h=>?_⟩
 ·show stN 1 C N + 0 + cntL isTaken (List.replicate T none) = 0
  rw [zDs _ rfl]
  unfold stN
  have : ∀ m,cntN (fun j=>decide (C.getD j 0 % 4 = 1)) m = 0:=fun m=>by
   induction m with
   | zero=>rfl
   | succ m ih=>rw [cntN,ih,hC m]; rfl
  rw [this]
 ·show 0 = cntL isGe (List.replicate T none)
  rw [zDs _ rfl]
 ·rw [List.getElem?_replicate] at h
  split at h <;> cases h
theorem COk.moved (h : COk B N Y) (ho : YOk (plOf B N) B.T n Y) {w : Nat} {T : Wk} {i : Nat} {z : Int} (hw : Y.ts[w]? = some (some (T,i)))
  (hst : ∀ j,j < N → (T.cells (plOf B N w) Y.C Y.now).getD j 0 % 4 ≠ 3)
  (hlv : stN 1 (T.cells (plOf B N w) Y.C Y.now) N + (if isTaken (some (T.step (plOf B N w) Y.C Y.now z,i)) = true ∧ (T.step (plOf B N w) Y.C Y.now z).ph = 0 then 1 else 0) + (if (T.step (plOf B N w) Y.C Y.now z).ph = 1 ∧ T.take = true then 1 else 0) = stN 1 Y.C N + (if isTaken (some (T,i)) = true then 1 else 0) + (if (T.step (plOf B N w) Y.C Y.now z).ph = 1 ∧ T.take = false then 1 else 0)) :
  COk B N (Y.step (plOf B N w) w T i z):=by
 obtain ⟨k1,k2,k3,k4,d,k5,k6,k7,k8,_⟩:=ho.task w T i hw
 have hkd:=h.kind w T i d hw k5
 have htake : (T.step (plOf B N w) Y.C Y.now z).take = T.take:=by cases T <;> rfl
 have hge : ∀ j : Nat,isGe (some (T.step (plOf B N w) Y.C Y.now z,j)) = isGe (some (T,j)):=fun j=>by cases T <;> rfl
 have hgt : isGe (some (T,i)) = T.take:=by cases T <;> rfl
 have hlive:=h.live
 have hpend:=h.pend
 have hwl:=hw
 by_cases hp : (T.step (plOf B N w) Y.C Y.now z).ph = 0
 ·have e1 : (Y.step (plOf B N w) w T i z).ts = Y.ts.set w (some (T.step (plOf B N w) Y.C Y.now z,i)):=if_pos hp
  have e2 : (Y.step (plOf B N w) w T i z).ds = Y.ds:=if_pos hp
  have c1:=zAa (p:=isTaken) (b:=some (T.step (plOf B N w) Y.C Y.now z,i)) hw
  have c2:=zAa (p:=isGe) (b:=some (T.step (plOf B N w) Y.C Y.now z,i)) hw
  rw [hge] at c2
  rw [if_neg (by omega : ¬ ((T.step (plOf B N w) Y.C Y.now z).ph = 1 ∧ T.take = true)),if_neg (by omega : ¬ ((T.step (plOf B N w) Y.C Y.now z).ph = 1 ∧ T.take = false))] at hlv
  simp only [hp,and_true] at hlv
  refine ⟨hst, ?_, ?_,fun v T' j d' hv hd=>?_⟩
  ·rw [e1,e2]
   show stN 1 (T.cells (plOf B N w) Y.C Y.now) N + _ + _ = _
   omega
  ·rw [e1,e2]
   omega
  ·rw [e2] at hd
   rcases zAk hv with ⟨rfl,rfl,_⟩ | ⟨_,hq⟩
   ·rw [e1,List.getElem?_set_self (List.getElem?_eq_some_iff.1 hw).1] at hv
    cases hv
    rw [htake]
    exact h.kind v T _ d' hw hd
   ·exact h.kind v T' j d' hq hd
 ·have e1 : (Y.step (plOf B N w) w T i z).ts = Y.ts.set w none:=if_neg hp
  have e2 : (Y.step (plOf B N w) w T i z).ds = Y.ds.set i (d.over Y.moves (T.step (plOf B N w) Y.C Y.now z)):=by
   show (if _ then _ else _) = _
   rw [if_neg hp,zBU k5]
  have c1:=zAa (p:=isTaken) (b:=none) hw
  have c2:=zAa (p:=isGe) (b:=none) hw
  have c3:=zAa (p:=isPut) (b:=d.over Y.moves (T.step (plOf B N w) Y.C Y.now z)) k5
  have c4:=zAa (p:=isHad) (b:=d.over Y.moves (T.step (plOf B N w) Y.C Y.now z)) k5
  have c5:=zAa (p:=isPend) (b:=d.over Y.moves (T.step (plOf B N w) Y.C Y.now z)) k5
  obtain ⟨s1,s2,s3,s4,s5,s6,s7⟩:=Dd.over_same d Y.moves (T.step (plOf B N w) Y.C Y.now z)
  have hok : (d.over Y.moves (T.step (plOf B N w) Y.C Y.now z)).ok = decide ((T.step (plOf B N w) Y.C Y.now z).ph = 1):=by
   unfold Dd.over
   split
   ·rename_i hq
    rw [decide_eq_true hq]
   ·rename_i hq
    rw [decide_eq_false hq]
    exact k8
  have x1 : isPut d = false:=by unfold isPut; rw [k8]; rfl
  have x2 : isHad d = false:=by unfold isHad; rw [k8]; rfl
  have x3 : isPend d = T.take:=by
   unfold isPend
   rw [k7,hkd]
   cases T.take <;> rfl
  have x4 : isPut (d.over Y.moves (T.step (plOf B N w) Y.C Y.now z)) = (decide ((T.step (plOf B N w) Y.C Y.now z).ph = 1) && !T.take):=by
   unfold isPut
   rw [hok,s2,hkd]
   cases T.take <;> rfl
  have x5 : isHad (d.over Y.moves (T.step (plOf B N w) Y.C Y.now z)) = (decide ((T.step (plOf B N w) Y.C Y.now z).ph = 1) && T.take):=by
   unfold isHad
   rw [hok,s2,hkd]
   cases T.take <;> rfl
  have x6 : isPend (d.over Y.moves (T.step (plOf B N w) Y.C Y.now z)) = false:=by
   unfold isPend
   rw [s7,decide_eq_false (by omega),Bool.false_and]
  rw [x1,x4] at c3
  rw [x2,x5] at c4
  rw [x3,x6] at c5
  rw [hgt] at c2
  rw [if_neg (by rintro ⟨_,hq⟩; exact hp hq)] at hlv
  simp only [show isTaken none = false from rfl,show isGe none = false from rfl,Bool.false_eq_true,if_false] at c1 c2 c3 c4 c5
  refine ⟨hst, ?_, ?_,fun v T' j d' hv hd=>?_⟩
  ·rw [e1,e2]
   show stN 1 (T.cells (plOf B N w) Y.C Y.now) N + _ + _ = _
   by_cases hp1 : (T.step (plOf B N w) Y.C Y.now z).ph = 1
   ·cases ht : T.take <;> simp [ht,hp1] at c3 c4 hlv <;> omega
   ·simp [hp1] at c3 c4 hlv
    omega
  ·rw [e1,e2]
   cases ht : T.take <;> simp [ht] at c2 c5 <;> omega
  ·rw [e2] at hd
   rcases zAk hv with ⟨_,_,hq⟩ | ⟨hne,hq⟩
   ·exact absurd hq hp
   ·rcases yset hd with ⟨rfl,rfl,_⟩ | ⟨_,hd2⟩
    ·rw [s2]
     exact h.kind v T' i d hq k5
    ·exact h.kind v T' j d' hq hd2
end
section
variable {B : YB} {N n : Nat} {Y Y' : Yd}
theorem zA2 (k : Pu) (r : Int) (h : k.ph = 0) : (k.after r).ph ≠ 1:=by
 unfold Pu.after
 split
 ·show k.ph ≠ 1
  omega
 ·split
  ·show (2 : Int) ≠ 1
   decide
  ·omega
theorem zCX {C : List Int} {c : Nat} {x : Int} (h : ∀ j,j < N → C.getD j 0 % 4 ≠ 3) (hl : N ≤ C.length) (hx : c < N → x % 4 ≠ 3) : ∀ j,j < N → (C.set c x).getD j 0 % 4 ≠ 3:=fun j hj=>by
 by_cases e : c = j
 ·subst e
  rw [zAL x (by omega)]
  exact hx hj
 ·rw [zAF x e]
  exact h j hj
theorem COk.next (h : COk B N Y) (hA : AOk B N Y) (ho : YOk (plOf B N) B.T n Y) (hc : YCf B N) (hT : (B.T : Int) = B.t) (hl : (Y.C.length : Int) = 2 * N + 2 * B.t) (hfit : ∀ j,0 ≤ Y.C.getD j 0 ∧ Y.C.getD j 0 ≤ 18446744073709551615) (hm : YHow B N Y Y') : COk B N Y':=by
 have hlen : Y.C.length = 2 * N + 2 * B.T:=by omega
 cases hm with
 | rest=>exact h
 | pass m hm=>exact ⟨h.st,h.live,h.pend,h.kind⟩
 | call w take kd e x s hw he hk =>
  have c1:=zAa (p:=isTaken) (b:=some (wkB B N w take e x s,Y.ds.length)) hw
  have c2:=zAa (p:=isGe) (b:=some (wkB B N w take e x s,Y.ds.length)) hw
  have x1 : isTaken (some (wkB B N w take e x s,Y.ds.length)) = false:=by cases take <;> rfl
  have x2 : isGe (some (wkB B N w take e x s,Y.ds.length)) = take:=by cases take <;> rfl
  have x3 : (wkB B N w take e x s).take = take:=by cases take <;> rfl
  rw [x1] at c1
  rw [x2] at c2
  simp only [show isTaken none = false from rfl,show isGe none = false from rfl,Bool.false_eq_true,if_false] at c1 c2
  have h1:=h.live
  have h2:=h.pend
  refine ⟨h.st, ?_, ?_,fun v T i d hv hd=>?_⟩
  ·show stN 1 Y.C N + cntL isHad (Y.ds ++ [_]) + cntL isTaken (Y.ts.set w _) = cntL isPut (Y.ds ++ [_])
   rw [zBt,zBt,if_neg (by simp [isHad]),if_neg (by simp [isPut])]
   omega
  ·show cntL isPend (Y.ds ++ [_]) = cntL isGe (Y.ts.set w _)
   rw [zBt]
   subst hk
   cases take
   ·rw [if_neg (by simp [isPend,kdI])]
    simp at c2
    omega
   ·rw [if_pos (by simp [isPend,kdI])]
    simp at c2
    omega
  ·rcases zBQ hv with ⟨rfl,rfl⟩ | ⟨hne,hq⟩
   ·rw [x3]
    have hi : i = Y.ds.length:=by
     have hv' : (Y.ts.set v (some (wkB B N v take e x s,Y.ds.length)))[v]? = some (some (wkB B N v take e x s,i)):=hv
     rw [List.getElem?_set_self (List.getElem?_eq_some_iff.1 hw).1] at hv'
     cases hv'
     rfl
    rcases ysnoc hd with ⟨_,rfl⟩ | ⟨hlt,_⟩
    ·exact hk.symm
    ·omega
   ·obtain ⟨_,_,_,_,d0,q5,_⟩:=ho.task v T i hq
    rcases ysnoc hd with ⟨hi,_⟩ | ⟨_,hd2⟩
    ·have:=(List.getElem?_eq_some_iff.1 q5).1
     omega
    ·exact h.kind v T i d hq hd2
 | step w T i z hw ha =>
  have hst:=h.st
  cases T with
  | pu k =>
   have hP:=hA.put w k i hw
   have hF:=ho.putF hc hT hl hw
   have hok:=hF.ok
   have f1:=hF.who; have f2:=hF.ph; have f5:=hF.lo; have f6:=hF.hi; have f7:=hF.n1
   obtain ⟨m0,_⟩:=hc.own hT hF.wT
   have hnp : ¬ k.ph ≠ 0:=by omega
   have main : ((∀ j,j < N → (k.cells N (2 * N + B.T) Y.C Y.now).getD j 0 % 4 ≠ 3) ∧ stN 1 (k.cells N (2 * N + B.T) Y.C Y.now) N = stN 1 Y.C N + (if (k.step ((w : Int) * B.s) (2 * N + B.T) (2 * N) Y.C Y.now).ph = 1 then 1 else 0)):=by
    rcases hok.at' f2 with ⟨a1,a2,a3⟩ | ⟨a1,a2,a3⟩ | ⟨a1,a2,a3⟩ | ⟨a1,a2,a3⟩
    ·have e2 : k.cells N (2 * N + B.T) Y.C Y.now = Y.C:=by unfold Pu.cells; rw [if_neg hnp,if_pos a1]
     have e3 : k.step ((w : Int) * B.s) (2 * N + B.T) (2 * N) Y.C Y.now = ({ k with cl:=k.cl.step ((w : Int) * B.s) (2 * N) Y.C } : Pu).after (k.cl.step ((w : Int) * B.s) (2 * N) Y.C).ph:=by unfold Pu.step; rw [if_neg hnp,if_pos a1]
     rw [e2,e3,if_neg (zA2 { k with cl:=k.cl.step ((w : Int) * B.s) (2 * N) Y.C } _ f2)]
     exact ⟨hst,rfl⟩
    ·have e2 : k.cells N (2 * N + B.T) Y.C Y.now = (stp (2 * N + B.T) k.tk Y.C Y.now).2.1:=by unfold Pu.cells; rw [if_neg hnp,if_neg (by omega),if_pos a1]
     have e3 : k.step ((w : Int) * B.s) (2 * N + B.T) (2 * N) Y.C Y.now = ({ k with tk:=(stp (2 * N + B.T) k.tk Y.C Y.now).1 } : Pu).after (stp (2 * N + B.T) k.tk Y.C Y.now).1.ph:=by unfold Pu.step; rw [if_neg hnp,if_neg (by omega),if_pos a1]
     rw [e2,e3,if_neg (zA2 { k with tk:=(stp (2 * N + B.T) k.tk Y.C Y.now).1 } _ f2)]
     rcases zCG (now:=Y.now) hok.tk hP.so' hfit (fun q1 q2=>by
      have htw:=hok.tw
      rw [htw] at q2 ⊢
      exact hP.num f2 q1 a3 q2) with hq | ⟨c,x,hq,h1,_⟩
     ·rw [hq]
      exact ⟨hst,rfl⟩
     ·rw [hq]
      exact ⟨zCX hst (by omega) (fun h=>by omega),zBn (by omega)⟩
    ·have e2 : k.cells N (2 * N + B.T) Y.C Y.now = Y.C.set (N + k.cl.slot.toNat) k.value:=by unfold Pu.cells; rw [if_neg hnp,if_neg (by omega),if_neg (by omega),if_pos a1]
     have e3 : k.step ((w : Int) * B.s) (2 * N + B.T) (2 * N) Y.C Y.now = { k with next:=3 }:=by unfold Pu.step; rw [if_neg hnp,if_neg (by omega),if_neg (by omega),if_pos a1]
     rw [e2,e3,if_neg (by show ¬ k.ph = 1; omega)]
     exact ⟨zCX hst (by omega) (fun h=>by omega),zBn (by omega)⟩
    ·have e2 : k.cells N (2 * N + B.T) Y.C Y.now = Y.C.set k.cl.slot.toNat k.pack:=by unfold Pu.cells; rw [if_neg hnp,if_neg (by omega),if_neg (by omega),if_neg (by omega)]
     have e3 : k.step ((w : Int) * B.s) (2 * N + B.T) (2 * N) Y.C Y.now = { k with ph:=1 }:=by unfold Pu.step; rw [if_neg hnp,if_neg (by omega),if_neg (by omega),if_neg (by omega)]
     have hpre:=hP.word f2 (.inl a2)
     have hg:=hok.wg (.inl a2)
     have hst3:=hok.st a3
     have hpp : k.pack % 4 = 1:=(zB5 hok.e0 hok.e1 hg.1 hg.2 hst3.1 hst3.2.1 hst3.2.2).1
     rw [e2,e3,if_pos rfl]
     exact ⟨zCX hst (by omega) (fun _=>by rw [hpp]; decide),zIc (by omega) (by omega) hpre.1 hpp⟩
   refine h.moved ho hw main.1 ?_
   show stN 1 (k.cells N (2 * N + B.T) Y.C Y.now) N + (if isTaken (some (Wk.pu _,i)) = true ∧ _ then 1 else 0) + (if _ ∧ (Wk.pu k).take = true then 1 else 0) = stN 1 Y.C N + (if isTaken (some (Wk.pu k,i)) = true then 1 else 0) + (if (k.step ((w : Int) * B.s) (2 * N + B.T) (2 * N) Y.C Y.now).ph = 1 ∧ (Wk.pu k).take = false then 1 else 0)
   rw [main.2]
   simp [isTaken,Wk.take]
  | ge k =>
   have hF:=ho.getF hw
   have hok:=hF.ok
   have f2:=hF.ph
   have hwT:=hF.wT
   have hnp : ¬ k.ph ≠ 0:=by omega
   have main : ((∀ j,j < N → (k.cells N (2 * N + w) Y.C).getD j 0 % 4 ≠ 3) ∧ stN 1 (k.cells N (2 * N + w) Y.C) N + (if hasTaken (k.step N (2 * N + w) Y.C z) = true ∧ (k.step N (2 * N + w) Y.C z).ph = 0 then 1 else 0) + (if (k.step N (2 * N + w) Y.C z).ph = 1 then 1 else 0) = stN 1 Y.C N + (if hasTaken k = true then 1 else 0)):=by
    cases hta : k.ta with
    | none =>
     have e2 : k.cells N (2 * N + w) Y.C = Y.C:=by unfold Ge.cells; rw [if_neg hnp,hta]
     have e3 : k.step N (2 * N + w) Y.C z = k.read (k.sn.step Y.C) z:=by unfold Ge.step; rw [if_neg hnp,hta]
     have t0 : hasTaken k = false:=by unfold hasTaken; rw [hta]
     have t1 : hasTaken (k.read (k.sn.step Y.C) z) = false ∧ (k.read (k.sn.step Y.C) z).ph ≠ 1:=by
      unfold Ge.read
      split
      ·exact ⟨by unfold hasTaken; show (match k.ta with | some a=>_ | none=>false) = false; rw [hta],by show k.ph ≠ 1; omega⟩
      ·split
       ·exact ⟨by unfold hasTaken; show (match k.ta with | some a=>_ | none=>false) = false; rw [hta],by show (2 : Int) ≠ 1; decide⟩
       ·exact ⟨rfl,by show k.ph ≠ 1; omega⟩
     rw [e2,e3,t0,t1.1,if_neg t1.2]
     exact ⟨hst,by simp⟩
    | some a =>
     obtain ⟨b1,b2,b3,b4,b5⟩:=hF.ta a hta
     have hAa:=hA.get w k i a hw hta
     have e2 : k.cells N (2 * N + w) Y.C = a.cells a.slot.toNat (2 * N + w) Y.C:=by unfold Ge.cells; rw [if_neg hnp,hta]
     have e3 : k.step N (2 * N + w) Y.C z = k.grab N (a.go a.slot.toNat (N + a.slot.toNat) Y.C):=by unfold Ge.step; rw [if_neg hnp,hta]
     have t0 : hasTaken k = (decide (a.next = 4) && !a.lost):=by unfold hasTaken; rw [hta]
     have on : ∀ a' : Ta,a.go a.slot.toNat (N + a.slot.toNat) Y.C = a' → a'.ph = 0 → k.step N (2 * N + w) Y.C z = { k with ta:=some a' }:=fun a' g hp'=>by
      rw [e3,g]
      unfold Ge.grab
      rw [if_neg (by omega),if_neg (by omega)]
     have still : ∀ a' : Ta,a.go a.slot.toNat (N + a.slot.toNat) Y.C = a' → a'.ph = 0 → (decide (a'.next = 4) && !a'.lost) = false → hasTaken k = false → stN 1 (k.cells N (2 * N + w) Y.C) N = stN 1 Y.C N → stN 1 (k.cells N (2 * N + w) Y.C) N + (if hasTaken (k.step N (2 * N + w) Y.C z) = true ∧ (k.step N (2 * N + w) Y.C z).ph = 0 then 1 else 0) + (if (k.step N (2 * N + w) Y.C z).ph = 1 then 1 else 0) = stN 1 Y.C N + (if hasTaken k = true then 1 else 0):=fun a' g hp' h4 h5 h6=>by
      rw [on a' g hp',h5,h6]
      rw [if_neg (by rintro ⟨hq,_⟩; have hq' : (decide (a'.next = 4) && !a'.lost) = true:=hq; rw [h4] at hq'; cases hq'),if_neg (by show ¬ k.ph = 1; omega)]
      simp
     rcases b5.st b2 with ⟨hn,hlo⟩ | ⟨hn,hlo⟩ | ⟨hn,hlo⟩ | ⟨hn,hlo⟩ | hn
     ·obtain ⟨g1,g2,g3⟩:=go_0 (j:=a.slot.toNat) (jv:=N + a.slot.toNat) (hz:=2 * N + w) (C:=Y.C) b2 hn
      exact ⟨by rw [e2,g2]; exact zCX hst (by omega) (fun h=>by omega),still _ g1 b2 rfl (by rw [t0,hn]; rfl) (by rw [e2,g2]; exact zBn (by omega))⟩
     ·by_cases hwd : Y.C.getD a.slot.toNat 0 = a.word
      ·obtain ⟨g1,g2,g3⟩:=go_1y (jv:=N + a.slot.toNat) (hz:=2 * N + w) b2 hn hwd
       exact ⟨by rw [e2,g2]; exact hst,still _ g1 b2 rfl (by rw [t0,hn]; rfl) (by rw [e2,g2])⟩
      ·obtain ⟨g1,g2,g3⟩:=go_1n (jv:=N + a.slot.toNat) (hz:=2 * N + w) b2 hn hwd
       exact ⟨by rw [e2,g2]; exact hst,still _ g1 b2 rfl (by rw [t0,hn]; rfl) (by rw [e2,g2])⟩
     ·obtain ⟨g1,g2,g3⟩:=go_2 (j:=a.slot.toNat) (jv:=N + a.slot.toNat) (hz:=2 * N + w) (C:=Y.C) b2 hn
      exact ⟨by rw [e2,g2]; exact hst,still _ g1 b2 rfl (by rw [t0,hn]; rfl) (by rw [e2,g2])⟩
     ·by_cases hwd : Y.C.getD a.slot.toNat 0 = a.word
      ·obtain ⟨g1,g2,g3⟩:=go_3y (jv:=N + a.slot.toNat) (hz:=2 * N + w) b2 hn hwd
       have hp:=(zAj b5.x0).1
       have hdn:=zG1 (C:=Y.C) (N:=N) (c:=a.slot.toNat) (x:=tkW a.word) (by omega) (by omega) (by rw [hwd]; exact hAa.live) (by omega)
       refine ⟨by rw [e2,g2]; exact zCX hst (by omega) (fun _=>by omega), ?_⟩
       rw [on _ g1 b2,t0,hn,e2,g2]
       rw [if_pos ⟨by show (decide ((4 : Int) = 4) && !a.lost) = true; rw [hlo]; rfl,f2⟩,if_neg (by show ¬ k.ph = 1; omega),if_neg (by simp)]
       omega
      ·obtain ⟨g1,g2,g3⟩:=go_3n (jv:=N + a.slot.toNat) (hz:=2 * N + w) b2 hn hwd
       exact ⟨by rw [e2,g2]; exact hst,still _ g1 b2 rfl (by rw [t0,hn]; rfl) (by rw [e2,g2])⟩
     ·by_cases hlo : a.lost = true
      ·obtain ⟨g1,g2,g3⟩:=go_4n (j:=a.slot.toNat) (jv:=N + a.slot.toNat) (hz:=2 * N + w) (C:=Y.C) b2 hn hlo
       refine ⟨by rw [e2,g2]; exact zCX hst (by omega) (fun h=>by omega), ?_⟩
       have e4 : k.step N (2 * N + w) Y.C z = { k with tries:=k.tries + 1,sn:=sn0 k.t k.s k.so k.d k.who (IntKind.u64.wrap k.start % N) N,ta:=none }:=by
        rw [e3,g1]
        unfold Ge.grab
        rw [if_neg (by show ¬ (2 : Int) = 1; decide),if_pos rfl]
       rw [e4,e2,g2,t0,hn,hlo,zBn (by omega)]
       rw [if_neg (by rintro ⟨hq,_⟩; have hq' : false = true:=hq; cases hq'),if_neg (by show ¬ k.ph = 1; omega),if_neg (by simp)]
      ·have hlo' : a.lost = false:=by simpa using hlo
       obtain ⟨g1,g2,g3⟩:=go_4y (j:=a.slot.toNat) (jv:=N + a.slot.toNat) (hz:=2 * N + w) (C:=Y.C) b2 hn hlo'
       refine ⟨by rw [e2,g2]; exact zCX hst (by omega) (fun h=>by omega), ?_⟩
       have e4 : k.step N (2 * N + w) Y.C z = { k with ta:=some { a with next:=5,ph:=1 },ph:=1 }:=by
        rw [e3,g1]
        unfold Ge.grab
        rw [if_pos rfl]
       rw [e4,e2,g2,t0,hn,hlo',zBn (by omega)]
       rw [if_neg (by rintro ⟨_,hq⟩; exact absurd hq (by show ¬ (1 : Int) = 0; decide)),if_pos rfl,if_pos (by simp)]
   refine h.moved ho hw main.1 ?_
   show stN 1 (k.cells N (2 * N + w) Y.C) N + (if hasTaken (k.step N (2 * N + w) Y.C z) = true ∧ (k.step N (2 * N + w) Y.C z).ph = 0 then 1 else 0) + (if (k.step N (2 * N + w) Y.C z).ph = 1 ∧ (true : Bool) = true then 1 else 0) = stN 1 Y.C N + (if hasTaken k = true then 1 else 0) + (if (k.step N (2 * N + w) Y.C z).ph = 1 ∧ (true : Bool) = false then 1 else 0)
   have hm:=main.2
   simp only [and_true,Bool.true_eq_false,and_false,if_false,Nat.add_zero] at hm ⊢
   exact hm
end
end
section
open Go.RowKit
section
variable {B : YB} {N n : Nat} {Y Y' : Yd} {w : Nat}
structure SOk (B : YB) (N : Nat) (Y : Yd) : Prop where
 num : MostN (2 * N + B.T) Y.C Y.moves
 fresh : ∀ (i : Nat) (a : Dd),Y.ds[i]? = some a → a.kd = 0 → a.ok = true → ∀ k0 : Tk,k0.so = B.so → k0.t = B.t → k0.steps = 0 → Bel (2 * N + B.T) k0 Y.C Y.now a.hi
 freshT : ∀ (v : Nat) (k : Pu) (i : Nat),Y.ts[v]? = some (some (.pu k,i)) → k.tk.ph = 1 → ∀ k0 : Tk,k0.so = B.so → k0.t = B.t → k0.steps = 0 → Bel (2 * N + B.T) k0 Y.C Y.now k.tk.hi
 tick : ∀ (v : Nat) (k : Pu) (i : Nat),Y.ts[v]? = some (some (.pu k,i)) → k.tk.ph = 0 → Go1 (2 * N + B.T) k.tk Y.C Y.now Y.moves ∧ ∀ (j : Nat) (a d : Dd),Y.ds[j]? = some a → a.kd = 0 → a.ok = true → Y.ds[i]? = some d → a.till < d.fr → Bel (2 * N + B.T) k.tk Y.C Y.now a.hi
 made : ∀ (v : Nat) (k : Pu) (i : Nat),Y.ts[v]? = some (some (.pu k,i)) → k.tk.ph = 1 → ∀ (j : Nat) (a d : Dd),Y.ds[j]? = some a → a.kd = 0 → a.ok = true → Y.ds[i]? = some d → a.till < d.fr → a.hi < k.tk.lo
 right : ∀ (j : Nat) (a : Dd),Y.ds[j]? = some a → a.kd = 0 → a.ok = true → 0 ≤ a.lo ∧ a.lo ≤ a.hi ∧ a.hi < 16777215
 order : ∀ (i j : Nat) (a b : Dd),Y.ds[i]? = some a → Y.ds[j]? = some b → a.kd = 0 → a.ok = true → b.kd = 0 → b.ok = true → a.till < b.fr → a.hi < b.lo
theorem SOk.start (C : List Int) (hC : ∀ j,C.getD j 0 = 0) (T : Nat) : SOk B N ⟨C,[],0,0,List.replicate T none,[]⟩:=by
 have hn : ∀ (w : Nat) (x : Wk × Nat),(List.replicate T (none : Option (Wk × Nat)))[w]? ≠ some (some x):=fun w x h=>by
  rw [List.getElem?_replicate] at h
  split at h <;> cases h
 exact ⟨fun j _=>by show 0 ≤ C.getD j 0 ∧ C.getD j 0 ≤ ((0 : Nat) : Int); rw [hC]; exact ⟨Int.le_refl _,Int.le_refl _⟩,fun i a h=>by simp at h,fun v k i h=>absurd h (hn v _),fun v k i h=>absurd h (hn v _),fun v k i h=>absurd h (hn v _),fun j a h=>by simp at h,fun i j a b h=>by simp at h⟩
theorem ge_far {k : Ge} {i : Nat} (ho : YOk (plOf B N) B.T n Y) (hw : Y.ts[w]? = some (some (.ge k,i))) : ∀ q,2 * N + B.T ≤ q → (k.cells N (2 * N + w) Y.C).getD q 0 = Y.C.getD q 0:=by
 intro q hq
 have hF:=ho.getF hw
 have hwT:=hF.wT
 unfold Ge.cells
 split
 ·rfl
 ·cases hta : k.ta with
  | none=>rfl
  | some a =>
   obtain ⟨_,_,b3,b4,_⟩:=hF.ta a hta
   show (a.cells a.slot.toNat (2 * N + w) Y.C).getD q 0 = _
   unfold Ta.cells
   split
   ·rfl
   ·split
    ·exact zAF _ (by omega)
    ·split
     ·rfl
     ·split
      ·rfl
      ·split
       ·split
        ·exact zAF _ (by omega)
        ·rfl
       ·exact zAF _ (by omega)
theorem zFm (h : SOk B N Y) (hA : AOk B N Y) (ho : YOk (plOf B N) B.T n Y) (hc : YCf B N) (hT : (B.T : Int) = B.t) (hl : (Y.C.length : Int) = 2 * N + 2 * B.t) (hn : n < 1000000) {T : Wk} {i : Nat} (hw : Y.ts[w]? = some (some (T,i))) :
  MostN (2 * N + B.T) (T.cells (plOf B N w) Y.C Y.now) (Y.moves + 1) ∧ UpN (2 * N + B.T) B.so w B.t Y.C (T.cells (plOf B N w) Y.C Y.now):=by
 have far : ∀ C' : List Int,(∀ q,2 * N + B.T ≤ q → C'.getD q 0 = Y.C.getD q 0) → MostN (2 * N + B.T) C' (Y.moves + 1) ∧ UpN (2 * N + B.T) B.so w B.t Y.C C':=fun C' hf =>
  ⟨fun j hj=>by have:=h.num j hj; rw [hf j hj]; omega,⟨fun j hj=>by rw [hf j hj]; exact Int.le_refl _,fun _ j _ _=>hf _ (by omega)⟩⟩
 cases T with
 | ge k=>exact far _ (ge_far ho hw)
 | pu k =>
  have hF:=ho.putF hc hT hl hw
  have hok:=hF.ok
  have b1:=hF.lo
  have b2:=hF.hi
  have b3:=hF.n1
  obtain ⟨m0,_⟩:=hc.own hT hF.wT
  have hnp : ¬ k.ph ≠ 0:=by have:=hF.ph; omega
  show MostN _ (k.cells N (2 * N + B.T) Y.C Y.now) _ ∧ UpN _ _ _ _ _ (k.cells N (2 * N + B.T) Y.C Y.now)
  rcases hok.at' hF.ph with ⟨a1,a2,a3⟩ | ⟨a1,a2,a3⟩ | ⟨a1,a2,a3⟩ | ⟨a1,a2,a3⟩
  ·have e2 : k.cells N (2 * N + B.T) Y.C Y.now = Y.C:=by unfold Pu.cells; rw [if_neg hnp,if_pos a1]
   rw [e2]
   exact far _ (fun _ _=>rfl)
  ·have e2 : k.cells N (2 * N + B.T) Y.C Y.now = (stp (2 * N + B.T) k.tk Y.C Y.now).2.1:=by unfold Pu.cells; rw [if_neg hnp,if_neg (by omega),if_pos a1]
   rw [e2]
   obtain ⟨g1,g2⟩:=h.tick w k i hw a3
   have hso:=(hA.put w k i hw).so'
   have hmv:=ho.most
   obtain ⟨_,q2,q3⟩:=zEa (now':=Y.tick) hok.tk g1 h.num (by omega) (by omega) ho.now0 (by have:=ho.now1; unfold Yd.tick; unfold yMax at *; split <;> omega) (fun hlt=>by unfold Yd.tick; unfold yMax; rw [if_pos (by omega)]; omega)
   refine ⟨q2, ?_⟩
   rw [hso,hok.tw,hok.tt,hF.who,hF.t] at q3
   exact q3
  ·have e2 : k.cells N (2 * N + B.T) Y.C Y.now = Y.C.set (N + k.cl.slot.toNat) k.value:=by unfold Pu.cells; rw [if_neg hnp,if_neg (by omega),if_neg (by omega),if_pos a1]
   rw [e2]
   exact far _ (fun q hq=>zAF _ (by omega))
  ·have e2 : k.cells N (2 * N + B.T) Y.C Y.now = Y.C.set k.cl.slot.toNat k.pack:=by unfold Pu.cells; rw [if_neg hnp,if_neg (by omega),if_neg (by omega),if_neg (by omega)]
   rw [e2]
   exact far _ (fun q hq=>zAF _ (by omega))
theorem zGZ (h0 : 0 ≤ Y.now) (h1 : Y.now ≤ yMax) : Y.now ≤ Y.tick ∧ (Y.now < 16777215 → Y.now < Y.tick):=by
 unfold Yd.tick
 unfold yMax at *
 split <;> omega
end
section
variable {B : YB} {N n : Nat} {Y Y' : Yd} {w : Nat}
theorem SOk.next (h : SOk B N Y) (hA : AOk B N Y) (hC : COk B N Y) (ho : YOk (plOf B N) B.T n Y) (hc : YCf B N) (hT : (B.T : Int) = B.t) (hl : (Y.C.length : Int) = 2 * N + 2 * B.t) (hn : n < 1000000) (hm : YHow B N Y Y') : SOk B N Y':=by
 cases hm with
 | rest=>exact h
 | pass m hm =>
  have hle : Y.now ≤ (Y.pass m).now:=by
   show Y.now ≤ (if m > yMax - Y.now then yMax else Y.now + m)
   have:=ho.now1
   split <;> omega
  exact ⟨h.num,fun i a p1 p2 p3 k0 q1 q2 q3=>(h.fresh i a p1 p2 p3 k0 q1 q2 q3).upN (fun _ _=>Int.le_refl _) hle,fun v k i p1 p2 k0 q1 q2 q3=>(h.freshT v k i p1 p2 k0 q1 q2 q3).upN (fun _ _=>Int.le_refl _) hle,
   fun v k i p1 p2=>⟨(h.tick v k i p1 p2).1.same (fun _ _=>rfl) hle (Int.le_refl _),fun j a d q1 q2 q3 q4 q5=>((h.tick v k i p1 p2).2 j a d q1 q2 q3 q4 q5).upN (fun _ _=>Int.le_refl _) hle⟩,h.made,h.right,h.order⟩
 | call w take kd e x s hw he hk =>
  have hwT : w < B.T:=by rw [← ho.len]; exact (List.getElem?_eq_some_iff.1 hw).1
  have old : ∀ {j : Nat} {a : Dd},(Y.call w kd e x s (wkB B N w take e x s)).ds[j]? = some a → a.ok = true → Y.ds[j]? = some a:=fun {j a} hj hok=>by
   rcases ysnoc hj with ⟨_,e2⟩ | ⟨_,e2⟩
   ·rw [e2] at hok
    cases hok
   ·exact e2
  have oldT : ∀ {v : Nat} {k : Pu} {i : Nat} {d : Dd},Y.ts[v]? = some (some (.pu k,i)) → (Y.call w kd e x s (wkB B N w take e x s)).ds[i]? = some d → Y.ds[i]? = some d:=fun {v k i d} hv hd=>by
   obtain ⟨_,_,_,_,d0,k5,_⟩:=ho.task v _ i hv
   rcases ysnoc hd with ⟨e1,_⟩ | ⟨_,e2⟩
   ·have:=(List.getElem?_eq_some_iff.1 k5).1
    omega
   ·exact e2
  have hmM : ((Y.call w kd e x s (wkB B N w take e x s)).moves : Int) = Y.moves + 1:=by show ((Y.moves + 1 : Nat) : Int) = _; omega
  refine ⟨by rw [hmM]; exact zEo h.num (by omega),fun i a p1 p2 p3=>h.fresh i a (old p1 p3) p2 p3,fun v k i p1 p2=>?_,fun v k i p1 p2=>?_,fun v k i p1 p2 j a d q1 q2 q3 q4 q5=>?_,fun j a p1 p2 p3=>h.right j a (old p1 p3) p2 p3,fun i j a b p1 p2 p3 p4 p5 p6=>h.order i j a b (old p1 p4) (old p2 p6) p3 p4 p5 p6⟩
  ·rcases zBQ p1 with ⟨rfl,hq⟩ | ⟨_,hq⟩
   ·have:=zC7 hq
    subst this
    cases p2
   ·exact h.freshT v k i hq p2
  ·rcases yset p1 with ⟨rfl,hq,_⟩ | ⟨_,hq⟩
   ·have hq1 : Wk.pu k = wkB B N w take e x s:=(Prod.mk.inj (Option.some.inj hq)).1
    have:=zC7 hq1
    subst this
    refine ⟨⟨rfl,fun _=>by show (0 : Int) ≤ _; omega,fun _ hh=>absurd rfl hh,fun _ hh=>absurd hh (by show ¬ (3 : Int) ≤ 0; decide),fun _ hh=>?_,fun _ hh=>absurd rfl hh⟩,fun j a d q1 q2 q3 _ _=>h.fresh j a (old q1 q3) q2 q3 _ rfl rfl rfl⟩
    have hh' : (w : Int) < 0:=hh
    omega
   ·obtain ⟨g1,g2⟩:=h.tick v k i hq p2
    exact ⟨g1.same (fun _ _=>rfl) (Int.le_refl _) (by rw [hmM]; omega),fun j a d q1 q2 q3 q4 q5=>g2 j a d (old q1 q3) q2 q3 (oldT hq q4) q5⟩
  ·rcases yset p1 with ⟨rfl,hq,_⟩ | ⟨_,hq⟩
   ·have hq1 : Wk.pu k = wkB B N w take e x s:=(Prod.mk.inj (Option.some.inj hq)).1
    have:=zC7 hq1
    subst this
    cases p2
   ·exact h.made v k i hq p2 j a d (old q1 q3) q2 q3 (oldT hq q4) q5
 | step w T i z hw ha =>
  obtain ⟨k1,k2,k3,k4,d0,k5,k6,k7,k8,_⟩:=ho.task w T i hw
  have hwT : w < B.T:=by rw [← ho.len]; exact (List.getElem?_eq_some_iff.1 hw).1
  obtain ⟨hnum,hup⟩:=zFm h hA ho hc hT hl hn hw
  obtain ⟨t1,t2⟩:=zGZ ho.now0 ho.now1
  have hmM : ((Y.step (plOf B N w) w T i z).moves : Int) = Y.moves + 1:=by show ((Y.moves + 1 : Nat) : Int) = _; omega
  have hkd:=hC.kind w T i d0 hw k5
  have hfr0 : ∀ (j : Nat) (b : Dd),Y.ds[j]? = some b → b.fr < Y.moves:=fun j b hb=>(ho.deed j b hb).2.2.1
  have bel : ∀ {k : Tk} {hh : Int},Bel (2 * N + B.T) k Y.C Y.now hh → Bel (2 * N + B.T) k (T.cells (plOf B N w) Y.C Y.now) Y.tick hh:=fun hb=>hb.upN hup.up t1
  have deed : ∀ {j : Nat} {a : Dd},(Y.step (plOf B N w) w T i z).ds[j]? = some a → (Y.ds[j]? = some a) ∨ (j = i ∧ (T.step (plOf B N w) Y.C Y.now z).ph ≠ 0 ∧ a = d0.over Y.moves (T.step (plOf B N w) Y.C Y.now z)):=fun {j a} hj=>by
   have hj' : (if (T.step (plOf B N w) Y.C Y.now z).ph = 0 then Y.ds else Y.ds.modify i (fun d=>d.over Y.moves (T.step (plOf B N w) Y.C Y.now z)))[j]? = some a:=hj
   split at hj'
   ·exact .inl hj'
   ·rename_i hp
    rcases ymod hj' with ⟨e1,d1,e2,e3⟩ | ⟨_,e2⟩
    ·subst e1
     rw [k5] at e2
     cases e2
     exact .inr ⟨rfl,hp,e3⟩
    ·exact .inl e2
  have done : ∀ {j : Nat} {a : Dd},(Y.step (plOf B N w) w T i z).ds[j]? = some a → a.kd = 0 → a.ok = true → (Y.ds[j]? = some a) ∨ (∃ k : Pu,T = .pu k ∧ k.tk.ph = 1 ∧ j = i ∧ a.till = Y.moves ∧ a.fr = d0.fr ∧ a.lo = k.tk.lo ∧ a.hi = k.tk.hi):=fun {j a} hj hk0 hok=>by
   rcases deed hj with hd | ⟨e1,hp,rfl⟩
   ·exact .inl hd
   ·right
    have s:=Dd.over_same d0 Y.moves (T.step (plOf B N w) Y.C Y.now z)
    have hp1 : (T.step (plOf B N w) Y.C Y.now z).ph = 1:=by
     by_cases hq : (T.step (plOf B N w) Y.C Y.now z).ph = 1
     ·exact hq
     ·unfold Dd.over at hok
      rw [if_neg hq] at hok
      rw [show d0.ok = false from k8] at hok
      cases hok
    cases T with
    | ge g =>
     have : (d0.over Y.moves ((Wk.ge g).step (plOf B N w) Y.C Y.now z)).kd = d0.kd:=by unfold Dd.over; split <;> rfl
     rw [this,hkd] at hk0
     exact absurd hk0 (by show ¬ (kdI true = 0); decide)
    | pu k =>
     have hF:=ho.putF hc hT hl hw
     have hnp : ¬ k.ph ≠ 0:=by have:=hF.ph; omega
     have hp1' : (k.step ((w : Int) * B.s) (2 * N + B.T) (2 * N) Y.C Y.now).ph = 1:=hp1
     rcases hF.ok.at' hF.ph with ⟨a1,a2,a3⟩ | ⟨a1,a2,a3⟩ | ⟨a1,a2,a3⟩ | ⟨a1,a2,a3⟩
     ·exfalso
      unfold Pu.step at hp1'
      rw [if_neg hnp,if_pos a1] at hp1'
      exact zA2 _ _ (by exact Classical.not_not.1 hnp) hp1'
     ·exfalso
      unfold Pu.step at hp1'
      rw [if_neg hnp,if_neg (by omega),if_pos a1] at hp1'
      exact zA2 _ _ (by exact Classical.not_not.1 hnp) hp1'
     ·exfalso
      unfold Pu.step at hp1'
      rw [if_neg hnp,if_neg (by omega),if_neg (by omega),if_pos a1] at hp1'
      have : k.ph = 1:=hp1'
      omega
     ·have e3 : k.step ((w : Int) * B.s) (2 * N + B.T) (2 * N) Y.C Y.now = { k with ph:=1 }:=by unfold Pu.step; rw [if_neg hnp,if_neg (by omega),if_neg (by omega),if_neg (by omega)]
      refine ⟨k,rfl,a3,e1, ?_⟩
      have e4 : d0.over Y.moves ((Wk.pu k).step (plOf B N w) Y.C Y.now z) = { d0 with till:=Y.moves,ok:=true,v:=0,lo:=k.tk.lo,hi:=k.tk.hi }:=by
       show d0.over Y.moves (.pu (k.step ((w : Int) * B.s) (2 * N + B.T) (2 * N) Y.C Y.now)) = _
       rw [e3]
       rfl
      rw [e4]
      exact ⟨rfl,rfl,rfl,rfl⟩
  have oldT : ∀ {v : Nat} {k : Pu} {i2 : Nat} {d : Dd},Y.ts[v]? = some (some (.pu k,i2)) → v ≠ w → (Y.step (plOf B N w) w T i z).ds[i2]? = some d → Y.ds[i2]? = some d:=fun {v k i2 d} hv hne hd=>by
   rcases deed hd with h1 | ⟨e1,_,_⟩
   ·exact h1
   ·obtain ⟨_,_,_,_,d2,q5,q6,_⟩:=ho.task v _ i2 hv
    rw [e1,k5] at q5
    cases q5
    rw [k6] at q6
    omega
  have own : ∀ (k' : Pu),T.step (plOf B N w) Y.C Y.now z = .pu k' → k'.ph = 0 →
    (k'.tk.ph = 0 → Go1 (2 * N + B.T) k'.tk (T.cells (plOf B N w) Y.C Y.now) Y.tick (Y.moves + 1) ∧ ∀ (j : Nat) (a : Dd),Y.ds[j]? = some a → a.kd = 0 → a.ok = true → a.till < d0.fr → Bel (2 * N + B.T) k'.tk (T.cells (plOf B N w) Y.C Y.now) Y.tick a.hi) ∧
    (k'.tk.ph = 1 → (∀ (j : Nat) (a : Dd),Y.ds[j]? = some a → a.kd = 0 → a.ok = true → a.till < d0.fr → a.hi < k'.tk.lo) ∧ ∀ k0 : Tk,k0.so = B.so → k0.t = B.t → k0.steps = 0 → Bel (2 * N + B.T) k0 (T.cells (plOf B N w) Y.C Y.now) Y.tick k'.tk.hi):=by
   intro k' hk' hp0
   cases T with
   | ge g=>cases hk'
   | pu k =>
    have hF:=ho.putF hc hT hl hw
    have hok:=hF.ok
    have b1:=hF.lo
    have b2:=hF.hi
    have b3:=hF.n1
    obtain ⟨m0,_⟩:=hc.own hT hF.wT
    have hnp : ¬ k.ph ≠ 0:=by have:=hF.ph; omega
    have hk2 : k.step ((w : Int) * B.s) (2 * N + B.T) (2 * N) Y.C Y.now = k':=by cases hk'; rfl
    rcases hok.at' hF.ph with ⟨a1,a2,a3⟩ | ⟨a1,a2,a3⟩ | ⟨a1,a2,a3⟩ | ⟨a1,a2,a3⟩
    ·have e2 : (Wk.pu k).cells (plOf B N w) Y.C Y.now = Y.C:=by show k.cells N (2 * N + B.T) Y.C Y.now = _; unfold Pu.cells; rw [if_neg hnp,if_pos a1]
     have e3 : k'.tk = k.tk:=by
      rw [← hk2]
      unfold Pu.step
      rw [if_neg hnp,if_pos a1]
      exact Pu.after_tk _ _
     rw [e3,e2]
     obtain ⟨g1,g2⟩:=h.tick w k i hw a3
     exact ⟨fun _=>⟨g1.same (fun _ _=>rfl) t1 (by omega),fun j a q1 q2 q3 q4=>(g2 j a d0 q1 q2 q3 k5 q4).upN (fun _ _=>Int.le_refl _) t1⟩,fun hh=>by omega⟩
    ·have e2 : (Wk.pu k).cells (plOf B N w) Y.C Y.now = (stp (2 * N + B.T) k.tk Y.C Y.now).2.1:=by show k.cells N (2 * N + B.T) Y.C Y.now = _; unfold Pu.cells; rw [if_neg hnp,if_neg (by omega),if_pos a1]
     have e3 : k'.tk = (stp (2 * N + B.T) k.tk Y.C Y.now).1:=by
      rw [← hk2]
      unfold Pu.step
      rw [if_neg hnp,if_neg (by omega),if_pos a1]
      exact Pu.after_tk _ _
     obtain ⟨g1,g2⟩:=h.tick w k i hw a3
     have hmv:=ho.most
     have hso:=(hA.put w k i hw).so'
     obtain ⟨q1,_,_⟩:=zEa (now':=Y.tick) hok.tk g1 h.num (by omega) (by omega) ho.now0 t1 t2
     rw [e3,e2]
     rcases q1 with ⟨r1,r2,r3⟩ | ⟨r1,r2,r3,r4,r5,r6⟩ | r1
     ·exact ⟨fun _=>⟨r2,fun j a s1 s2 s3 s4=>r3 _ (h.right j a s1 s2 s3).2.2 (g2 j a d0 s1 s2 s3 k5 s4)⟩,fun hh=>by omega⟩
     ·exact ⟨fun hh=>by omega,fun _=>⟨fun j a s1 s2 s3 s4=>r5 _ (h.right j a s1 s2 s3).2.2 (g2 j a d0 s1 s2 s3 k5 s4),fun k0 s1 s2 s3=>r6 k0 (by rw [hso]; exact s1) (by rw [hok.tt,hF.t]; exact s2) s3⟩⟩
     ·exact ⟨fun hh=>by omega,fun hh=>by omega⟩
    ·have e3 : k'.tk = k.tk:=by
      rw [← hk2]
      unfold Pu.step
      rw [if_neg hnp,if_neg (by omega),if_neg (by omega),if_pos a1]
     rw [e3]
     exact ⟨fun hh=>by omega,fun _=>⟨fun j a s1 s2 s3 s4=>h.made w k i hw a3 j a d0 s1 s2 s3 k5 s4,fun k0 s1 s2 s3=>bel (h.freshT w k i hw a3 k0 s1 s2 s3)⟩⟩
    ·exfalso
     rw [← hk2] at hp0
     unfold Pu.step at hp0
     rw [if_neg hnp,if_neg (by omega),if_neg (by omega),if_neg (by omega)] at hp0
     exact absurd hp0 (by show ¬ (1 : Int) = 0; decide)
  have d0' : ∀ {d : Dd},(T.step (plOf B N w) Y.C Y.now z).ph = 0 → (Y.step (plOf B N w) w T i z).ds[i]? = some d → d = d0:=fun {d} hp hd=>by
   rcases deed hd with h1 | ⟨_,hp2,_⟩
   ·rw [k5] at h1
    cases h1
    rfl
   ·exact absurd hp hp2
  have tsi : ∀ {k' : Pu} {i2 : Nat},(Y.step (plOf B N w) w T i z).ts[w]? = some (some (.pu k',i2)) → i2 = i:=fun {k' i2} hv=>by
   have h' : (if (T.step (plOf B N w) Y.C Y.now z).ph = 0 then Y.ts.set w (some (T.step (plOf B N w) Y.C Y.now z,i)) else Y.ts.set w Option.none)[w]? = some (some (Wk.pu k',i2)):=hv
   split at h'
   ·rcases yset h' with ⟨_,e2,_⟩ | ⟨e1,_⟩
    ·exact (Prod.mk.inj (Option.some.inj e2)).2
    ·exact absurd rfl e1
   ·rcases yset h' with ⟨_,e2,_⟩ | ⟨e1,_⟩
    ·cases e2
    ·exact absurd rfl e1
  refine ⟨by rw [hmM]; exact hnum,fun j a p1 p2 p3 k0 q1 q2 q3=>?_,fun v k j p1 p2 k0 q1 q2 q3=>?_,fun v k j p1 p2=>?_,fun v k j p1 p2 j2 a d q1 q2 q3 q4 q5=>?_,fun j a p1 p2 p3=>?_,fun j1 j2 a b p1 p2 p3 p4 p5 p6 p7=>?_⟩
  ·show Bel (2 * N + B.T) k0 (T.cells (plOf B N w) Y.C Y.now) Y.tick a.hi
   rcases done p1 p2 p3 with hd | ⟨k,rfl,r1,_,_,_,_,r5⟩
   ·exact bel (h.fresh j a hd p2 p3 k0 q1 q2 q3)
   ·rw [r5]
    exact bel (h.freshT w k i hw r1 k0 q1 q2 q3)
  ·show Bel (2 * N + B.T) k0 (T.cells (plOf B N w) Y.C Y.now) Y.tick k.tk.hi
   rcases zAk p1 with ⟨rfl,hq,h0⟩ | ⟨hv,hq⟩
   ·rw [← hq] at h0
    exact ((own k hq.symm h0).2 p2).2 k0 q1 q2 q3
   ·exact bel (h.freshT v k j hq p2 k0 q1 q2 q3)
  ·show Go1 (2 * N + B.T) k.tk (T.cells (plOf B N w) Y.C Y.now) Y.tick ((Y.step (plOf B N w) w T i z).moves : Int) ∧ _
   rw [hmM]
   rcases zAk p1 with ⟨rfl,hq,h0⟩ | ⟨hv,hq⟩
   ·have h0':=h0
    rw [← hq] at h0
    obtain ⟨g1,g2⟩:=(own k hq.symm h0).1 p2
    have hji:=tsi p1
    subst hji
    refine ⟨g1,fun j2 a d s1 s2 s3 s4 s5=>?_⟩
    have hdd:=d0' h0' s4
    subst hdd
    rcases done s1 s2 s3 with hd | ⟨_,_,_,_,r3,_⟩
    ·exact g2 j2 a hd s2 s3 s5
    ·have:=hfr0 _ d k5
     omega
   ·obtain ⟨g1,g2⟩:=h.tick v k j hq p2
    have hFv:=ho.putF hc hT hl hq
    have hso:=(hA.put v k j hq).so'
    have hvT:=hFv.wT
    refine ⟨g1.upN (t:=B.t) (who:=w) (by rw [hso]; exact hup) (by rw [hFv.ok.tw,hFv.who]; omega) hFv.ok.tk.w0 (by have:=hFv.ok.tk.w1; rw [hFv.ok.tt,hFv.t] at this; exact this) t1 (by omega),fun j2 a d s1 s2 s3 s4 s5=>?_⟩
    have hdd:=oldT hq hv s4
    rcases done s1 s2 s3 with hd | ⟨_,_,_,_,r3,_⟩
    ·exact bel (g2 j2 a d hd s2 s3 hdd s5)
    ·have:=hfr0 _ d hdd
     omega
  ·rcases zAk p1 with ⟨rfl,hq,h0⟩ | ⟨hv,hq⟩
   ·have h0':=h0
    rw [← hq] at h0
    have g1:=((own k hq.symm h0).2 p2).1
    have hji:=tsi p1
    subst hji
    have hdd:=d0' h0' q4
    subst hdd
    rcases done q1 q2 q3 with hd | ⟨_,_,_,_,r3,_⟩
    ·exact g1 j2 a hd q2 q3 q5
    ·have:=hfr0 _ d k5
     omega
   ·have hdd:=oldT hq hv q4
    rcases done q1 q2 q3 with hd | ⟨_,_,_,_,r3,_⟩
    ·exact h.made v k j hq p2 j2 a d hd q2 q3 hdd q5
    ·have:=hfr0 _ d hdd
     omega
  ·rcases done p1 p2 p3 with hd | ⟨k,rfl,r1,_,_,_,r4,r5⟩
   ·exact h.right j a hd p2 p3
   ·rw [r4,r5]
    exact (ho.putF hc hT hl hw).ok.st r1
  ·rcases done p2 p5 p6 with hd2 | ⟨k,rfl,r1,_,r2,r3,r4,r5⟩
   ·rcases done p1 p3 p4 with hd1 | ⟨_,_,_,_,s2,_⟩
    ·exact h.order j1 j2 a b hd1 hd2 p3 p4 p5 p6 p7
    ·have:=hfr0 _ b hd2
     omega
   ·rcases done p1 p3 p4 with hd1 | ⟨_,_,_,_,s2,_⟩
    ·rw [r4]
     exact h.made w k i hw r1 j1 a d0 hd1 p3 p4 k5 (by rw [← r3]; exact p7)
    ·have:=hfr0 _ d0 k5
     omega
end
end
section
open Go.RowKit
def dBef (a b : Dd) : Prop:=0 ≤ a.till ∧ a.till < b.fr
instance (a b : Dd) : Decidable (dBef a b):=inferInstanceAs (Decidable (_ ∧ _))
end
section
open Go.RowKit
section
variable {pl : Nat → Pl} {t n : Nat} {Y Y' : Yd}
structure YNum (Y : Yd) : Prop where
 from' : ∀ (i j : Nat) (d d' : Dd),Y.ds[i]? = some d → Y.ds[j]? = some d' → d.fr ≠ d'.till
 till : ∀ (i j : Nat) (d d' : Dd),i ≠ j → Y.ds[i]? = some d → Y.ds[j]? = some d' → 0 ≤ d.till → d.till ≠ d'.till
 kind : ∀ (i : Nat) (d : Dd),Y.ds[i]? = some d → (d.kd = 0 ∨ d.kd = 1) ∧ (d.e = 0 ∨ d.e = 1)
theorem YNum.start (C : List Int) (t : Nat) : YNum ⟨C,[],0,0,List.replicate t none,[]⟩:=⟨fun i j d d' h=>by simp at h,fun i j d d' _ h=>by simp at h,fun i d h=>by simp at h⟩
theorem YNum.over (h : YNum Y) (ho : YOk pl t n Y) {w i : Nat} {T : Wk} {P : Pl} {z : Int} (hw : Y.ts[w]? = some (some (T,i))) : YNum (Y.step P w T i z):=by
 unfold Yd.step
 by_cases hp : (T.step P Y.C Y.now z).ph = 0
 ·rw [if_pos hp,if_pos hp]
  exact ⟨h.from',h.till,h.kind⟩
 ·rw [if_neg hp,if_neg hp]
  have key : ∀ {j : Nat} {d : Dd},(Y.ds.modify i (fun d=>d.over Y.moves (T.step P Y.C Y.now z)))[j]? = some d → ∃ d0,Y.ds[j]? = some d0 ∧ d.fr = d0.fr ∧ d.kd = d0.kd ∧ d.e = d0.e ∧ ((j = i ∧ d.till = Y.moves) ∨ (j ≠ i ∧ d.till = d0.till)):=fun {j d} hj=>by
   rcases ymod hj with ⟨rfl,d0,h0,rfl⟩ | ⟨hne,h0⟩
   ·obtain ⟨_,s2,s3,_,_,s6,s7⟩:=Dd.over_same d0 Y.moves (T.step P Y.C Y.now z)
    exact ⟨d0,h0,s6,s2,s3,.inl ⟨rfl,s7⟩⟩
   ·exact ⟨d,h0,rfl,rfl,rfl,.inr ⟨fun e=>hne e.symm,rfl⟩⟩
  have bnd : ∀ {j : Nat} {d : Dd},Y.ds[j]? = some d → 0 ≤ d.fr ∧ d.fr < Y.moves ∧ d.till < Y.moves:=fun {j d} hj=>by
   obtain ⟨_,b1,b2,b3⟩:=ho.deed j d hj
   refine ⟨b1,b2, ?_⟩
   by_cases e : d.till = -1
   ·omega
   ·exact (b3 e).2
  refine ⟨fun a b d d' ha hb=>?_,fun a b d d' hab ha hb h0=>?_,fun a d ha=>?_⟩
  ·obtain ⟨e,e1,e2,_,_,_⟩:=key ha
   obtain ⟨f,f1,_,_,_,f5⟩:=key hb
   have:=bnd e1
   rcases f5 with ⟨_,f5⟩ | ⟨_,f5⟩
   ·omega
   ·rw [e2,f5]
    exact h.from' a b e f e1 f1
  ·obtain ⟨e,e1,_,_,_,e5⟩:=key ha
   obtain ⟨f,f1,_,_,_,f5⟩:=key hb
   have:=bnd e1
   have:=bnd f1
   rcases e5 with ⟨e6,e5⟩ | ⟨_,e5⟩ <;> rcases f5 with ⟨f6,f5⟩ | ⟨_,f5⟩
   ·omega
   ·omega
   ·omega
   ·rw [e5,f5]
    exact h.till a b e f hab e1 f1 (by omega)
  ·obtain ⟨e,e1,_,e3,e4,_⟩:=key ha
   rw [e3,e4]
   exact h.kind a e e1
theorem YNum.next (h : YNum Y) (ho : YOk pl t n Y) (hm : YMv pl Y Y') : YNum Y':=by
 cases hm with
 | rest=>exact h
 | pass k hk=>exact ⟨h.from',h.till,h.kind⟩
 | step w T i z hw ha=>exact h.over ho hw
 | call w kd e x s T hw hk h0 hb hp hr =>
  have bnd : ∀ {j : Nat} {d : Dd},Y.ds[j]? = some d → 0 ≤ d.fr ∧ d.fr < Y.moves ∧ d.till < Y.moves:=fun {j d} hj=>by
   obtain ⟨_,b1,b2,b3⟩:=ho.deed j d hj
   refine ⟨b1,b2, ?_⟩
   by_cases e : d.till = -1
   ·omega
   ·exact (b3 e).2
  refine ⟨fun a b d d' ha hb=>?_,fun a b d d' hab ha hb h0=>?_,fun a d ha=>?_⟩
  ·rcases ysnoc ha with ⟨_,rfl⟩ | ⟨_,ha⟩ <;> rcases ysnoc hb with ⟨_,rfl⟩ | ⟨_,hb⟩
   ·show (Y.moves : Int) ≠ -1
    omega
   ·have:=bnd hb
    show (Y.moves : Int) ≠ d'.till
    omega
   ·have:=bnd ha
    show d.fr ≠ (-1 : Int)
    omega
   ·exact h.from' a b d d' ha hb
  ·rcases ysnoc ha with ⟨_,rfl⟩ | ⟨_,ha⟩
   ·exact absurd h0 (by show ¬ (0 : Int) ≤ -1; decide)
   ·rcases ysnoc hb with ⟨_,rfl⟩ | ⟨_,hb⟩
    ·show d.till ≠ (-1 : Int)
     omega
    ·exact h.till a b d d' hab ha hb h0
  ·rcases ysnoc ha with ⟨_,rfl⟩ | ⟨_,ha⟩
   ·exact hr
   ·exact h.kind a d ha
end
end
section
open Go.RowKit
def rankW (x : Int) : Int:=(x / 8 % 8192) * 4 + x % 4
section
variable {B : YB} {N n : Nat} {Y Y' : Yd}
theorem zE5 (h : AOk B N Y) (h' : AOk B N Y') (ho : YOk (plOf B N) B.T n Y) (hm : YMv (plOf B N) Y Y') (hl : (Y.C.length : Int) = 2 * N + 2 * B.t) (hfit : ∀ j,0 ≤ Y.C.getD j 0 ∧ Y.C.getD j 0 ≤ 18446744073709551615) (hfit' : ∀ j,0 ≤ Y'.C.getD j 0 ∧ Y'.C.getD j 0 ≤ 18446744073709551615) {j : Nat} (hj : j < N) : Y'.C.getD j 0 = Y.C.getD j 0 ∨ rankW (Y.C.getD j 0) < rankW (Y'.C.getD j 0):=by
 obtain ⟨w,E,hN,hL,_⟩:=YMv.noted ho hm
 rcases hN with ⟨_,hC⟩ | ⟨e,hE,h1⟩
 ·rw [hC]
  exact .inl rfl
 ·rw [hE] at hL
  have hmay:=h'.all Y.L.length e (by rw [hL,List.getElem?_append_right (Nat.le_refl _),Nat.sub_self]; rfl)
  rw [hL,List.take_left] at hmay
  obtain ⟨_,_,c0,_,_,hmid⟩:=hmay
  have hc1:=h1.c1
  by_cases hje : e.cell.toNat = j
  ·have hcj : e.cell = (j : Int):=by omega
   rw [if_pos (by omega)] at hmid
   have hold : e.old = Y.C.getD j 0:=by rw [h1.old,hje]
   have hnew : Y'.C.getD j 0 = e.new:=by rw [h1.cells,hje,zAL _ (by omega)]
   have f1:=hfit j
   have f2:=hfit' j
   rw [hnew]
   rw [← hold] at f1 ⊢
   rw [hnew] at f2
   have hsame : e.op = 0 ∨ e.ok = false → e.new = e.old:=fun hq=>by rw [h1.new hq,h1.old]
   unfold rankW
   rcases hmid with q | ⟨q1,q2,q3,q4,q5,q6,q7⟩ | ⟨q1,q2 | ⟨q2,q3,q4,q5,q6,q7⟩⟩
   ·exact .inl (hsame (.inl q))
   ·right
    omega
   ·exact .inl (hsame (.inr q2))
   ·right
    omega
  ·rw [h1.cells,zAF _ hje]
   exact .inl rfl
end
structure YTr (B : YB) (N : Nat) (Y : Nat → Yd) (m : Nat) : Prop where
 zero : Y 0 = ⟨List.replicate (2 * N + 2 * B.T) 0,[],0,0,List.replicate B.T none,[]⟩
 how : ∀ i,i < m → YHow B N (Y i) (Y (i + 1))
 mv : ∀ i,i < m → YMv (plOf B N) (Y i) (Y (i + 1))
 fit : ∀ i,i ≤ m → ∀ j,0 ≤ (Y i).C.getD j 0 ∧ (Y i).C.getD j 0 ≤ 18446744073709551615
 cf : YCf B N
 hT : (B.T : Int) = B.t
 few : m < 1000000
structure YAll (B : YB) (N : Nat) (Y : Yd) (i : Nat) : Prop where
 ok : YOk (plOf B N) B.T i Y
 len : (Y.C.length : Int) = 2 * N + 2 * B.t
 aok : AOk B N Y
 cok : COk B N Y
 sok : SOk B N Y
 num : YNum Y
section
variable {B : YB} {N m : Nat} {Y : Nat → Yd}
theorem zHS {pl : Nat → Pl} {Y Y' : Yd} (h : YMv pl Y Y') : Y'.C.length = Y.C.length:=by
 cases h with
 | rest=>rfl
 | call=>rfl
 | pass=>rfl
 | step=>exact Wk.cells_len
theorem YTr.all (h : YTr B N Y m) : ∀ i,i ≤ m → YAll B N (Y i) i
 | 0,_=>by
  rw [h.zero]
  have hz : ∀ j,(List.replicate (2 * N + 2 * B.T) (0 : Int)).getD j 0 = 0:=fun j=>by
   rw [List.getD_eq_getElem?_getD,List.getElem?_replicate]
   split <;> rfl
  have hT:=h.hT
  exact ⟨YOk.start _ _,by show ((List.replicate (2 * N + 2 * B.T) (0 : Int)).length : Int) = _; rw [List.length_replicate]; omega,AOk.start _ hz _,COk.start _ hz _,SOk.start _ hz _,YNum.start _ _⟩
 | i + 1,hi=>by
  have ih:=YTr.all h i (by omega)
  have hw:=h.how i (by omega)
  have hv:=h.mv i (by omega)
  have hf:=h.fit i (by omega)
  have hfew:=h.few
  exact ⟨ih.ok.next hv (by omega) hf,by rw [zHS hv]; exact ih.len,ih.aok.next ih.ok h.cf h.hT ih.len hf hw,ih.cok.next ih.aok ih.ok h.cf h.hT ih.len hf hw,
   ih.sok.next ih.aok ih.cok ih.ok h.cf h.hT ih.len (by omega) hw,ih.num.next ih.ok hv⟩
theorem YTr.snoc (h : YTr B N Y m) {Z : Yd} (hw : YHow B N (Y m) Z) (hv : YMv (plOf B N) (Y m) Z) (hf : ∀ j,0 ≤ Z.C.getD j 0 ∧ Z.C.getD j 0 ≤ 18446744073709551615) (hfew : m + 1 < 1000000) : YTr B N (fun i=>if i ≤ m then Y i else Z) (m + 1):=by
 refine ⟨by show (if 0 ≤ m then Y 0 else Z) = _; rw [if_pos (Nat.zero_le _)]; exact h.zero,fun i hi=>?_,fun i hi=>?_,fun i hi j=>?_,h.cf,h.hT,hfew⟩
 ·show YHow B N (if i ≤ m then Y i else Z) (if i + 1 ≤ m then Y (i + 1) else Z)
  rw [if_pos (by omega)]
  by_cases hq : i + 1 ≤ m
  ·rw [if_pos hq]
   exact h.how i (by omega)
  ·rw [if_neg hq]
   obtain rfl : i = m:=by omega
   exact hw
 ·show YMv _ (if i ≤ m then Y i else Z) (if i + 1 ≤ m then Y (i + 1) else Z)
  rw [if_pos (by omega)]
  by_cases hq : i + 1 ≤ m
  ·rw [if_pos hq]
   exact h.mv i (by omega)
  ·rw [if_neg hq]
   obtain rfl : i = m:=by omega
   exact hv
 ·show 0 ≤ (if i ≤ m then Y i else Z).C.getD j 0 ∧ (if i ≤ m then Y i else Z).C.getD j 0 ≤ _
  by_cases hq : i ≤ m
  ·rw [if_pos hq]
   exact h.fit i hq j
  ·rw [if_neg hq]
   exact hf j
theorem YTr.snoc_last (Y : Nat → Yd) (m : Nat) (Z : Yd) : (fun i=>if i ≤ m then Y i else Z) (m + 1) = Z:=by
 show (if m + 1 ≤ m then _ else _) = _
 rw [if_neg (by omega)]
theorem YTr.rise (h : YTr B N Y m) {j : Nat} (hj : j < N) : ∀ {a b : Nat},a ≤ b → b ≤ m → rankW ((Y a).C.getD j 0) ≤ rankW ((Y b).C.getD j 0) ∧ (rankW ((Y a).C.getD j 0) = rankW ((Y b).C.getD j 0) → (Y a).C.getD j 0 = (Y b).C.getD j 0):=by
 intro a b hab hb
 induction b with
 | zero =>
  obtain rfl : a = 0:=by omega
  exact ⟨Int.le_refl _,fun _=>rfl⟩
 | succ b ih =>
  by_cases hq : a = b + 1
  ·subst hq
   exact ⟨Int.le_refl _,fun _=>rfl⟩
  ·obtain ⟨i1,i2⟩:=ih (by omega) (by omega)
   have h1:=h.all b (by omega)
   have h2:=h.all (b + 1) hb
   rcases zE5 h1.aok h2.aok h1.ok (h.mv b (by omega)) h1.len (h.fit b (by omega)) (h.fit (b + 1) hb) hj with hs | hs
   ·rw [hs]
    exact ⟨i1,i2⟩
   ·exact ⟨by omega,fun hh=>by omega⟩
theorem YTr.stays (h : YTr B N Y m) {j : Nat} (hj : j < N) {a b c : Nat} (hab : a ≤ b) (hbc : b ≤ c) (hc : c ≤ m) (he : (Y a).C.getD j 0 = (Y c).C.getD j 0) : (Y b).C.getD j 0 = (Y a).C.getD j 0:=by
 obtain ⟨p1,p2⟩:=h.rise hj hab (by omega)
 obtain ⟨q1,q2⟩:=h.rise hj hbc hc
 rw [← he] at q1
 exact (p2 (by omega)).symm
end
end
section
open Go.RowKit
def CM.asks (m : CM) : Prop:=(m.ck = 0 ∨ m.ck = 1) ∧ (m.ce = 0 ∨ m.ce = 1)
inductive PDo (B : YB) (N : Nat) (m : CM) (Y : Yd) : Yd → Int → Prop
 | out (h : m.k = 0) (hw : m.who < 0 ∨ B.t ≤ m.who ∨ ¬ m.asks) : PDo B N m Y Y 1
 | busy (k : Nat) (a : Wk × Nat) (h : m.k = 0) (hw : m.who = k) (ha : m.asks) (hb : Y.ts[k]? = some (some a)) : PDo B N m Y Y 2
 | call (k : Nat) (take : Bool) (h : m.k = 0) (hw : m.who = k) (hk : kdI take = m.ck) (he : m.ce = 0 ∨ m.ce = 1) (hq : Y.ts[k]? = some none) : PDo B N m Y (Y.call k m.ck m.ce m.v m.st (wkB B N k take m.ce m.v m.st)) 0
 | none (h : m.k = 1) (hn : ∀ k : Nat,(k : Int) = m.who → ∀ a,Y.ts[k]? ≠ some (some a)) : PDo B N m Y Y 5
 | step (k : Nat) (T : Wk) (i : Nat) (z : Int) (h : m.k = 1) (hw : m.who = k) (hq : Y.ts[k]? = some (some (T,i))) (ha : T.ask Y.C z) : PDo B N m Y (Y.step (plOf B N k) k T i z) 0
 | pass (h : m.k = 2) (hn : 0 < m.n) : PDo B N m Y (Y.pass m.n) 0
 | still (h : m.k = 2) (hn : ¬ 0 < m.n) : PDo B N m Y Y 0
 | other (h0 : m.k ≠ 0) (h1 : m.k ≠ 1) (h2 : m.k ≠ 2) : PDo B N m Y Y 1
section
variable {B : YB} {N n : Nat} {m : CM} {Y Y' Y1 Y2 : Yd} {a a1 a2 : Int}
theorem PDo.how (h : PDo B N m Y Y' a) : YHow B N Y Y':=by
 cases h with
 | out=>exact .rest
 | busy=>exact .rest
 | call k take h hw hk he hq=>exact .call k take m.ck m.ce m.v m.st hq he hk
 | none=>exact .rest
 | step k T i z h hw hq ha=>exact .step k T i z hq ha
 | pass h hn=>exact .pass m.n hn
 | still=>exact .rest
 | other=>exact .rest
theorem YHow.mv_of (hw : YHow B N Y Y') (hx : ∀ (w : Nat) (take : Bool) (kd e x s : Int),Y' = Y.call w kd e x s (wkB B N w take e x s) → 0 ≤ x ∧ x ≤ 18446744073709551615) (hc : YCf B N) (hT : (B.T : Int) = B.t) (hl : (Y.C.length : Int) = 2 * N + 2 * B.t) (ho : YOk (plOf B N) B.T n Y) : YMv (plOf B N) Y Y':=by
 cases hw with
 | rest=>exact .rest
 | call w take kd e x s hq he hk =>
  have hkT : w < B.T:=by have:=(List.getElem?_eq_some_iff.1 hq).1; have:=ho.len; omega
  obtain ⟨m0,m1⟩:=hc.own hT hkT
  obtain ⟨x0,x1⟩:=hx w take kd e x s rfl
  obtain ⟨k1,k2⟩:=zH6 (C:=Y.C) (so:=B.so) (d:=B.d) (e:=e) (x:=x) (start:=s) (nb:=2 * N + B.T) (h0:=2 * N) (hw:=2 * N + w) take hc.lay hl (by omega) (by omega) (by omega) (show (0 : Int) ≤ w by omega) (by omega) rfl m0 m1 hc.o0 hc.o1 hc.d0 hc.d1 he x0 x1
  exact .call w kd e x s _ hq k1 k2 (zH4 take) (by cases take <;> rfl) ⟨by cases take; exact .inl hk.symm; exact .inr hk.symm,he⟩
 | step w T i z hq ha=>exact .step w T i z hq ha
 | pass k hk=>exact .pass k hk
def YB.like (B B' : YB) : Prop:=B'.t = B.t ∧ B'.s = B.s ∧ B'.so = B.so ∧ B'.d = B.d ∧ B'.T = B.T
end
structure PTr (B : YB) (N : Nat) (S : List CM) (Y : Nat → Yd) (A : List Int) : Prop where
 tr : YTr B N Y S.length
 len : A.length = S.length
 at' : ∀ (i : Nat) (m : CM) (a : Int),S[i]? = some m → A[i]? = some a → PDo B N m (Y i) (Y (i + 1)) a
def yd0 (N T : Nat) : Yd:=⟨List.replicate (2 * N + 2 * T) 0,[],0,0,List.replicate T none,[]⟩
theorem YTr.start {B : YB} {N : Nat} (hc : YCf B N) (hT : (B.T : Int) = B.t) : YTr B N (fun _=>yd0 N B.T) 0:=by
 refine ⟨rfl,fun i hi=>absurd hi (Nat.not_lt_zero _),fun i hi=>absurd hi (Nat.not_lt_zero _),fun i _ j=>?_,hc,hT,by decide⟩
 show 0 ≤ (List.replicate (2 * N + 2 * B.T) (0 : Int)).getD j 0 ∧ (List.replicate (2 * N + 2 * B.T) (0 : Int)).getD j 0 ≤ _
 rw [List.getD_eq_getElem?_getD,List.getElem?_replicate]
 split
 ·show (0 : Int) ≤ 0 ∧ (0 : Int) ≤ _
  omega
 ·show (0 : Int) ≤ 0 ∧ (0 : Int) ≤ _
  omega
section
variable {B B' : YB} {N : Nat} {S : List CM} {Y Y' : Nat → Yd} {A A' : List Int}
theorem PTr.start (hc : YCf B N) (hT : (B.T : Int) = B.t) : PTr B N [] (fun _=>yd0 N B.T) [] :=
 ⟨YTr.start hc hT,rfl,fun i m a h=>by simp at h⟩
theorem PTr.snoc (h : PTr B N S Y A) {m : CM} {a : Int} {Z : Yd} (hd : PDo B N m (Y S.length) Z a) (hf : ∀ j,0 ≤ Z.C.getD j 0 ∧ Z.C.getD j 0 ≤ 18446744073709551615) (hv : m.Fit) (hfew : S.length + 1 < 1000000) :
  PTr B N (S ++ [m]) (fun i=>if i ≤ S.length then Y i else Z) (A ++ [a]):=by
 have hall:=h.tr.all S.length (Nat.le_refl _)
 have hmv : YMv (plOf B N) (Y S.length) Z:=hd.how.mv_of (fun w take kd e x s he=>by
  cases hd with
  | call k take' h hw hk he' hq =>
   have e1:=congrArg Yd.ds he
   have e2 : ((Y S.length).ds ++ [(⟨(k : Int),m.ck,m.ce,m.v,m.st,(Y S.length).moves, -1,false,0,0,0⟩ : Dd)]) = (Y S.length).ds ++ [⟨(w : Int),kd,e,x,s,(Y S.length).moves, -1,false,0,0,0⟩]:=e1
   have e3:=List.append_cancel_left e2
   simp only [List.cons.injEq,Dd.mk.injEq,and_true] at e3
   rw [← e3.2.2.2.1]
   exact hv
  | out h hw =>
   have e1:=congrArg (fun y=>y.ds.length) he
   have e2 : (Y S.length).ds.length = ((Y S.length).ds ++ [_]).length:=e1
   rw [List.length_append,List.length_singleton] at e2
   omega
  | busy =>
   have e1:=congrArg (fun y=>y.ds.length) he
   have e2 : (Y S.length).ds.length = ((Y S.length).ds ++ [_]).length:=e1
   rw [List.length_append,List.length_singleton] at e2
   omega
  | none =>
   have e1:=congrArg (fun y=>y.ds.length) he
   have e2 : (Y S.length).ds.length = ((Y S.length).ds ++ [_]).length:=e1
   rw [List.length_append,List.length_singleton] at e2
   omega
  | step k T i z h hw hq ha =>
   have e1:=congrArg (fun y=>y.ds.length) he
   have e2 : (if (T.step (plOf B N k) (Y S.length).C (Y S.length).now z).ph = 0 then (Y S.length).ds else (Y S.length).ds.modify i _).length = ((Y S.length).ds ++ [_]).length:=e1
   have e3 : (if (T.step (plOf B N k) (Y S.length).C (Y S.length).now z).ph = 0 then (Y S.length).ds else (Y S.length).ds.modify i (fun d=>d.over (Y S.length).moves (T.step (plOf B N k) (Y S.length).C (Y S.length).now z))).length = (Y S.length).ds.length:=by
    split
    ·rfl
    ·rw [List.length_modify]
   rw [List.length_append,List.length_singleton] at e2
   omega
  | pass =>
   have e1:=congrArg (fun y=>y.ds.length) he
   have e2 : (Y S.length).ds.length = ((Y S.length).ds ++ [_]).length:=e1
   rw [List.length_append,List.length_singleton] at e2
   omega
  | still =>
   have e1:=congrArg (fun y=>y.ds.length) he
   have e2 : (Y S.length).ds.length = ((Y S.length).ds ++ [_]).length:=e1
   rw [List.length_append,List.length_singleton] at e2
   omega
  | other =>
   have e1:=congrArg (fun y=>y.ds.length) he
   have e2 : (Y S.length).ds.length = ((Y S.length).ds ++ [_]).length:=e1
   rw [List.length_append,List.length_singleton] at e2
   omega) h.tr.cf h.tr.hT hall.len hall.ok
 refine ⟨by rw [List.length_append,List.length_singleton]; exact h.tr.snoc hd.how hmv hf hfew,by rw [List.length_append,List.length_append,h.len]; rfl,fun i m' a' hi ha=>?_⟩
 rcases ysnoc hi with ⟨rfl,rfl⟩ | ⟨hi1,hi2⟩
 ·rw [← h.len,List.getElem?_append_right (Nat.le_refl _),Nat.sub_self] at ha
  cases ha
  show PDo B N m' (if S.length ≤ S.length then Y S.length else Z) (if S.length + 1 ≤ S.length then Y (S.length + 1) else Z) a
  rw [if_pos (Nat.le_refl _),if_neg (by omega)]
  exact hd
 ·rw [List.getElem?_append_left (by rw [h.len]; exact hi1)] at ha
  show PDo B N m' (if i ≤ S.length then Y i else Z) (if i + 1 ≤ S.length then Y (i + 1) else Z) a'
  rw [if_pos (by omega),if_pos (by omega)]
  exact h.at' i m' a' hi2 ha
def Dd.ask (d : Dd) : Int × Int × Int × Int × Int:=(d.who,d.kd,d.e,d.x,d.s)
end
end
section
open Go.RowKit
theorem zIK {W w : World} {l : List Thing} {B : YB} {Y : Yd} {J : Nat → Nat} {n N : Nat} (h : YdL W w l B N Y J n) (hn : n < 1000000) (m : CM) (hf : m.Fit) :
  Calls Tryz.prog 18 #[pt B.yb,m.val] w fun r w' => ∃ a l' J' Y',r = .returned (i64 a) ∧ PDo B N m Y Y' a ∧ YdL W w' l' B N Y' J' (n + 1) ∧ YGo Y Y' l l' J J':=by
 obtain ⟨k,who,ck,ce,x,s,mn⟩:=m
 have HY:=zIo (h.later (zAA (Below.refl w.heap.size w) ((⟨k,who,ck,ce,x,s,mn⟩ : CM).obj 50)))
 have HO:=zIo (IsObj.made w [.int .i64 k,.int .i64 who,.int .i64 ck,.int .i64 ce,.int .u64 x,.int .i64 s,.int .i64 mn] 50)
 have HF:=zIo (show 0 ≤ x ∧ x ≤ 18446744073709551615 from hf)
 have HT:=zIo h.hT
 clear h hf
 unfold CM.val
 simp only
 rcases (by omega : k = 0 ∨ k = 1 ∨ k = 2 ∨ (k ≠ 0 ∧ k ≠ 1 ∧ k ≠ 2)) with rfl | rfl | rfl | ⟨h0,h1,h2⟩
 ·by_cases hw : who < 0 ∨ B.t ≤ who
  ·obtain ⟨v,vd,X,hA⟩:=HY.out.h
   have HA:=zIo hA
   have HW:=zIo hw
   clear hA hw
   go_enter Tryz.func18,Tryz.ntmps18
   go_wp2_with fail
   refine (zGN HA.out who HW.out ck ce x s).mono ?_
   rintro r w' ⟨rfl,hb⟩
   have HZ:=zIo (HY.out.later hb)
   clear hb HA HY HO
   go_wp2
   go_ret
   exact ⟨1,l,J,Y,rfl,.out rfl (HW.out.elim .inl (fun h=>.inr (.inl h))),HZ.out.next hn .rest HZ.out.h,YGo.refl _ _ _⟩
  ·obtain ⟨q,rfl⟩ : ∃ q : Nat,who = q:=⟨who.toNat,by omega⟩
   have hqT : q < B.T:=by have:=HT.out; omega
   by_cases ha : (ck = 0 ∨ ck = 1) ∧ (ce = 0 ∨ ce = 1)
   ·obtain ⟨take,hk⟩ : ∃ take : Bool,kdI take = ck:=by
     rcases ha.1 with h | h
     ·exact ⟨false,h.symm⟩
     ·exact ⟨true,h.symm⟩
    have HK:=zIo hk
    have HAs:=zIo ha
    clear hk ha hw
    go_enter Tryz.func18,Tryz.ntmps18
    go_wp2_with fail
    refine (HY.out.call hn q hqT take HK.out ce x s HAs.out.2 HF.out.1 HF.out.2).mono ?_
    rintro r w' ⟨l',J',Y',hd,hg,h3⟩
    have HD:=zIo hd
    have HG:=zIo hg
    clear hd hg HY HO
    rcases h3 with ⟨rfl,rfl,a,hq⟩ | ⟨rfl,hq,rfl⟩
    ·have HQ:=zIo hq
     clear hq
     go_wp2
     go_ret
     exact ⟨2,l',J',_,rfl,.busy q a rfl rfl HAs.out HQ.out,HD.out,HG.out⟩
    ·have HQ:=zIo hq
     clear hq
     go_wp2
     go_ret
     exact ⟨0,l',J',_,rfl,.call q take rfl rfl HK.out HAs.out.2 HQ.out,HD.out,HG.out⟩
   ·obtain ⟨v,vd,X,hA⟩:=HY.out.h
    have HA:=zIo hA
    have HAs:=zIo ha
    clear hA ha hw
    go_enter Tryz.func18,Tryz.ntmps18
    go_wp2_with fail
    refine (zEU HA.out q hqT ck ce x s HAs.out).mono ?_
    rintro r w' ⟨rfl,hb⟩
    have HZ:=zIo (HY.out.later hb)
    clear hb HA HY HO
    go_wp2
    go_ret
    exact ⟨1,l,J,Y,rfl,.out rfl (.inr (.inr HAs.out)),HZ.out.next hn .rest HZ.out.h,YGo.refl _ _ _⟩
 ·skip
  go_enter Tryz.func18,Tryz.ntmps18
  go_wp2_with fail
  refine (zDx HY.out.cf HY.out.h HY.out.ok hn who).mono ?_
  rintro r w1 ⟨b,l',J',Y',rfl,hl',hg,h3⟩
  have HL:=zIo hl'
  have HG:=zIo hg
  have H3:=zIo h3
  clear hl' hg h3 HO
  cases b with
  | false =>
   go_wp2
   go_ret
   rcases H3.out with ⟨_,h4,h5⟩ | ⟨h4,_⟩
   ·have hL:=HL.out
    have hG:=HG.out
    rw [h4] at hL hG
    exact ⟨5,l',J',Y,rfl,.none rfl h5,HY.out.next hn .rest hL,hG⟩
   ·cases h4
  | true =>
   go_wp2
   go_ret
   rcases H3.out with ⟨h4,_⟩ | ⟨_,k,T,i,z,h5,h6,h7,h8⟩
   ·cases h4
   ·have hL:=HL.out
    have hG:=HG.out
    rw [h8] at hL hG
    exact ⟨0,l',J',_,rfl,.step k T i z rfl h5.symm h6 h7,HY.out.next hn (.step k T i z h6 h7) hL,hG⟩
 ·have n0:=HY.out.ok.now0
  have n1:=HY.out.ok.now1
  obtain ⟨v,vd,X,hA⟩:=HY.out.h
  have HA:=zIo hA
  clear hA
  rcases (by omega : mn ≤ 0 ∨ 0 < mn) with hm0 | hm0
  ·skip
   go_enter Tryz.func18,Tryz.ntmps18
   go_wp2_with fail
   refine (zFc HA.out mn hm0).mono ?_
   rintro r w1 ⟨rfl,rfl⟩
   clear HA HO
   go_wp2
   go_ret
   exact ⟨0,l,J,Y,rfl,.still rfl (by show ¬ 0 < mn; omega),HY.out.next hn .rest HY.out.h,YGo.refl _ _ _⟩
  ·skip
   go_enter Tryz.func18,Tryz.ntmps18
   go_wp2_with fail
   refine (zCV HA.out mn hm0 n0 n1).mono ?_
   rintro r w1 ⟨rfl,l',hl',hle,hke⟩
   have HL:=zIo hl'
   have HG : Hid (YGo Y (Y.pass mn) l l' J J):=zIo (zIk hle hke)
   clear hl' hle hke HA HO
   go_wp2
   go_ret
   exact ⟨0,l',J,_,rfl,.pass rfl hm0,HY.out.next hn (.pass mn hm0) ⟨_,_,_,HL.out⟩,HG.out⟩
 ·have e0 : (k == 0) = false:=beq_false_of_ne h0
  have e1 : (k == 1) = false:=beq_false_of_ne h1
  have e2 : (k == 2) = false:=beq_false_of_ne h2
  have H0:=zIo (And.intro h0 (And.intro h1 h2))
  clear h0 h1 h2 HO
  go_enter Tryz.func18,Tryz.ntmps18
  go_wp2_with fail
  go_ret
  exact ⟨1,l,J,Y,rfl,.other H0.out.1 H0.out.2.1 H0.out.2.2,HY.out.next hn .rest HY.out.h,YGo.refl _ _ _⟩
section
variable {W w w' : World} {l l' : List Thing} {B : YB} {Y Y' : Yd} {J J' : Nat → Nat} {n n' N : Nat}
theorem YdL.turnRow (h : YdL W w l B N Y J n) {j : Nat} {A A' : Thing} (hr : Rest Y l J j A) (hl : Hold W w' (l.set j A')) : YdL W w' (l.set j A') B N Y J n ∧ Rest Y (l.set j A') J j A' :=
 ⟨⟨h.h.other hl (fun i C hi hf=>by rw [List.getElem?_set_ne (fun e=>by subst e; exact hf hr.free)]; exact hi),h.ok,h.len,h.cf,h.hT⟩,List.getElem?_set_self (List.getElem?_eq_some_iff.1 hr.at').1,hr.free⟩
end
theorem IsObj.rowOf {w : World} {base g n : Nat} {e : TypeId} {xs : List Value} (h : w.ownsRow base e 1 (.slice (some ⟨g,0,none⟩) n n) n xs) (hl : xs.length = n) : IsObj w g xs :=
 ⟨fun j x hj=>by rw [h.cellAt j (by have:=(List.getElem?_eq_some_iff.1 hj).1; omega)]; exact hj,fun o=>h.frozenAt o,(h.lt g rfl).2⟩
theorem zCz : ElemAt Tryz.prog 33 34 (.int .i64 0) 1 8:=ElemAt.mk' Tryz.underlying33 (by kernel_rfl) rfl (by decide)
theorem zFO (n : Nat) : (madeCells (Value.int .i64 0).cells (n * 1)).toList = List.replicate n (Value.int .i64 0):=by
 rw [Nat.mul_one]
 exact toList_madeCells_one (.int .i64 0) n
def ansL (A : List Int) (n : Nat) : List Value:=A.map (fun a=>.int .i64 a) ++ List.replicate (n - A.length) (.int .i64 0)
theorem zHY (A : List Int) (n : Nat) (a : Int) (h : A.length < n) : (ansL A n).set A.length (.int .i64 a) = ansL (A ++ [a]) n:=by
 unfold ansL
 rw [List.set_append_right _ _ (by rw [List.length_map]; exact Nat.le_refl _),List.length_map,Nat.sub_self,List.map_append,List.append_assoc,List.length_append,List.length_singleton,show n - A.length = (n - (A.length + 1)) + 1 by omega,List.replicate_succ]
 rfl
theorem zGd (A : List Int) : ansL A A.length = A.map (fun a=>.int .i64 a):=by
 unfold ansL
 rw [Nat.sub_self]
 exact List.append_nil _
structure PRn (W w : World) (l : List Thing) (B : YB) (N : Nat) (S : List CM) (Yf : Nat → Yd) (A : List Int) (J : Nat → Nat) (g : Nat) : Prop where
 yd : YdL W w l B N (Yf S.length) J S.length
 tr : PTr B N S Yf A
 row : Rest (Yf S.length) l J 4 (tObj W.heap.size g (A.map (fun a=>.int .i64 a)))
theorem zFf {t s so d : Int} (h : rightC t s so d = true) : ∃ T N : Nat,t = T ∧ Lay T s N ∧ 0 ≤ so ∧ so ≤ 4 ∧ 0 ≤ d ∧ d ≤ 100:=by
 obtain ⟨h1,h2,h3,h4,h5,h6,h7,h8⟩:=of_decide_eq_true h
 have hl:=Lay.mk' h1 h2 h3 h4
 obtain ⟨T,rfl⟩ : ∃ T : Nat,t = T:=⟨t.toNat,by omega⟩
 obtain ⟨N,hN⟩ : ∃ N : Nat,(T : Int) * s = N:=⟨((T : Int) * s).toNat,by have:=hl.n1; omega⟩
 rw [hN] at hl
 exact ⟨T,N,rfl,hl,h5,h6,h7,h8⟩
theorem zF5 {S : List CM} {i : Nat} {m : CM} (h : S[i]? = some m) : S.take (i + 1) = S.take i ++ [m]:=by rw [List.take_add_one,h]; rfl
theorem zDU (T : Nat) (s so d : Int) (N : Nat) (A : Option Addr) (cap : Nat) (S : List CM) (w : World) (hS : IsAt w A (flatM S)) (hf : ∀ m ∈ S,m.Fit) (hn : S.length < 900000) (hl : Lay T s N) (o0 : 0 ≤ so) (o1 : so ≤ 4) (d0 : 0 ≤ d) (d1 : d ≤ 100) :
  Calls Tryz.prog 6 #[scV T s so d (.slice A S.length cap)] w fun r w' => ∃ W l yb ytb p c Yf An J g,r = .returned (.tuple #[pt yb,.slice (some ⟨g,0,none⟩) S.length S.length,i64 0]) ∧ Below w.heap.size w W ∧ PRn W w' l ⟨yb,ytb,p,c,T,s,so,d,T⟩ N S Yf An J g:=by
 have hB0:=zAA (Below.refl w.heap.size w) (.cells #[.int .i64 T,.int .i64 s,.int .i64 so,.int .i64 d,.slice A S.length cap] 29)
 have HS:=zIo (hS.later hB0)
 have HSO:=zIo (IsObj.made w [.int .i64 T,.int .i64 s,.int .i64 so,.int .i64 d,.slice A S.length cap] 29)
 have HB:=zIo hB0
 have HF:=zIo hf
 have HLAY:=zIo hl
 obtain ⟨n,hne⟩ : ∃ n,S.length = n:=⟨_,rfl⟩
 rw [hne] at hn HSO HB HS ⊢
 have HN:=zIo hne
 clear hS hf hl hB0 hne
 unfold scV
 go_enter Tryz.func6,Tryz.ntmps6
 go_wp2_with fail
 generalize w.alloc (.cells #[.int .i64 T,.int .i64 s,.int .i64 so,.int .i64 d,.slice A n cap] 29) = W at HS HSO HB ⊢
 refine (zHP (W:=W) T s so d N (Below.refl _ _) HLAY.out o0 o1 d0 d1).mono ?_
 rintro r w3 ⟨yb,ytb,p,c,l0,rfl,hl4,hY,hb,hyb⟩
 have HD0:=zIo (YdL.start HLAY.out o0 o1 d0 d1 hY)
 have HL4:=zIo hl4
 clear hY hb hyb hl4
 have q4:=(HSO.out.later HD0.out.h.below).at' 4 _ rfl
 obtain ⟨im,hm1,hm2,hm3,hm4⟩:=zCz.info
 go_wp2_with (at_make; refine wpList_make_full _ rfl _ _ 33 rfl W.heap.size 34 im (.int .i64 0) 1 zCz.und hm1 hm2 hm3 .i64 .i64 _ _ n rfl rfl rfl rfl (by rw [hm4]; omega) (by unfold maxLen; omega) HD0.out.h.size ?_; intro w4 hown hg; rw [zFO] at hown; have hown2 : w4.ownsRow W.heap.size 34 1 (.slice (some ⟨w3.heap.size,0,none⟩) n n) n (ansL [] n):=hown; have HD1:=zIo (HD0.out.more (A:=tObj W.heap.size w3.heap.size (ansL [] n)) ((Below.refl _ _).grown hg (Nat.le_refl _) (fun k hk=>by cases hk)) (zAP W.heap.size _ _) ⟨IsObj.rowOf hown2 (by unfold ansL; simp),HD0.out.h.size⟩ (fun q hq=>by cases hq; exact Nat.le_refl _)); have R4:=zIo (HD0.out.rest (tObj W.heap.size w3.heap.size (ansL [] n))); clear hown hown2 hg q4; have q4:=(HSO.out.later HD1.out.h.below).at' 4 _ rfl)
 clear im hm1 hm2 hm3 hm4 HD0
 generalize w3.heap.size = g at HD1 R4 ⊢
 have HR0 : Hid (Rest (yd0 N T) (l0 ++ [tObj W.heap.size g (ansL [] n)]) (fun _=>0) 4 (tObj W.heap.size g (ansL [] n))):=zIo (by have h:=R4.out; rw [HL4.out] at h; exact h)
 have HP0 : Hid (PTr ⟨yb,ytb,p,c,T,s,so,d,T⟩ N (S.take 0) (fun _=>yd0 N T) []):=zIo (PTr.start ⟨HLAY.out,o0,o1,d0,d1⟩ rfl)
 clear R4 HL4
 go_loopw [26] (fun ix wr => ∃ (i : Nat) (l : List Thing) (Y : Nat → Yd) (J : Nat → Nat) (An : List Int),i ≤ n ∧ ix = .int .i64 i ∧ Hid (YdL W wr l ⟨yb,ytb,p,c,T,s,so,d,T⟩ N (Y i) J i) ∧ Hid (PTr ⟨yb,ytb,p,c,T,s,so,d,T⟩ N (S.take i) Y An) ∧ Hid (Rest (Y i) l J 4 (tObj W.heap.size g (ansL An n)))) (fun ix _=>n - (RowKit.intOf ix).toNat)
 case atStart=>exact ⟨0,_,(fun _=>yd0 N T),_,[],Nat.zero_le _,rfl,HD1,HP0,HR0⟩
 case round =>
  clear HD1 HP0 HR0
  obtain ⟨i,l,Y,J,An,hin,rfl,HD,HP,HR⟩:=hrel
  rcases Nat.lt_or_ge i n with hi | hi
  ·have hi' : (i : Int) < (n : Int):=by omega
   have hiS : i < S.length:=by have:=HN.out; omega
   obtain ⟨m,hm⟩ : ∃ m,S[i]? = some m:=⟨_,List.getElem?_eq_getElem hiS⟩
   have HM:=zIo (List.mem_of_getElem? hm)
   have HTS:=zIo (zF5 hm)
   obtain ⟨b,off,rfl,hbl,hc⟩:=HS.out.move hm
   have hW1:=HD.out.h.below
   have e0:=(hW1.cell (p:=⟨b,off + i * 7,none⟩) hbl).trans hc.c0
   have e1:=(hW1.cell (p:=⟨b,off + i * 7 + 1,none⟩) hbl).trans hc.c1
   have e2:=(hW1.cell (p:=⟨b,off + i * 7 + 2,none⟩) hbl).trans hc.c2
   have e3:=(hW1.cell (p:=⟨b,off + i * 7 + 3,none⟩) hbl).trans hc.c3
   have e4:=(hW1.cell (p:=⟨b,off + i * 7 + 4,none⟩) hbl).trans hc.c4
   have e5:=(hW1.cell (p:=⟨b,off + i * 7 + 5,none⟩) hbl).trans hc.c5
   have e6:=(hW1.cell (p:=⟨b,off + i * 7 + 6,none⟩) hbl).trans hc.c6
   have HD2:=zIo (HD.out.later (zAA (Below.refl wr.heap.size wr) (m.obj 50)))
   clear hW1 hc hm hiS
   go_wp2_with fail
   refine (zIK HD2.out (by omega) m (HF.out m HM.out)).mono ?_
   rintro r w4 ⟨a,l1,J1,Y1,rfl,hdo,hd,hg⟩
   have HD1:=zIo hd
   have HR1:=zIo (HR.out.go hg)
   have hlt : (S.take i).length = i:=by rw [List.length_take]; have:=HN.out; omega
   have hP1:=HP.out.snoc (m:=m) (a:=a) (Z:=Y1) (by rw [hlt]; exact hdo) hd.h.fit (HF.out m HM.out) (by rw [hlt]; omega)
   rw [hlt, ← HTS.out] at hP1
   have hAl : An.length = i:=HP.out.len.trans hlt
   obtain ⟨Y2,hY2,HP2⟩ : ∃ Y2 : Nat → Yd,Y2 (i + 1) = Y1 ∧ Hid (PTr ⟨yb,ytb,p,c,T,s,so,d,T⟩ N (S.take (i + 1)) Y2 (An ++ [a])):=⟨_,if_neg (by omega),zIo hP1⟩
   have hO:=(HD1.out.has HR1.out : IsObj w4 g (ansL An n) ∧ W.heap.size ≤ g).1
   have HST:=zIo (HD1.out.h.hold.objSet 4 HR1.out.at' i (.int .i64 a))
   have hset : (ansL An n).set i (.int .i64 a) = ansL (An ++ [a]) n:=by rw [← hAl]; exact zHY An n a (by omega)
   have HSE:=zIo hset
   obtain ⟨uu,huu⟩ : ∃ uu,(ansL An n)[i]? = some uu:=⟨_,List.getElem?_eq_getElem (by unfold ansL; rw [List.length_append,List.length_map,List.length_replicate]; omega)⟩
   have c9:=hO.at' i _ huu
   have f9:=hO.fz i
   have HY2:=zIo hY2
   clear hO hset huu hAl hP1 hlt hdo hd hg hY2 e0 e1 e2 e3 e4 e5 e6 HD HD2 HP HR HTS HM
   go_wp2_with fail
   obtain ⟨hD3,hR3⟩:=HD1.out.turnRow HR1.out (by have h:=HST.out; rw [HSE.out] at h; exact h)
   have HD3:=zIo hD3
   have HR3:=zIo hR3
   clear hD3 hR3
   go_roundw
   case rel=>exact ⟨i + 1,_,Y2,J1,An ++ [a],by omega,by go_num,zIo (by rw [HY2.out]; exact HD3.out),HP2,zIo (by rw [HY2.out]; exact HR3.out)⟩
   case measure=>first | omega | (simp [RowKit.intOf]; done) | (simp [RowKit.intOf]; omega)
  ·obtain rfl : i = n:=by omega
   have hnn : ¬ (i : Int) < (i : Int):=by omega
   clear HS hi hin
   go_wp2_with fail
   have hlen:=HN.out
   subst hlen
   have hP:=HP.out
   rw [List.take_length] at hP
   have hR:=HR.out
   rw [← hP.len,zGd] at hR
   exact bodyPost_ret (v:=.tuple #[pt yb,.slice (some ⟨g,0,none⟩) S.length S.length,i64 0]) (by simp [results,Tryz.results6,go_sem]) rfl ⟨W,l,yb,ytb,p,c,Y,An,J,g,rfl,HB.out,HD.out,hP,by rw [← hP.len]; exact hR⟩
end
end Go.Proofs.YtjlpidjilonhfaaGreat
