/- Contracts and plain lemmas that these laws need. No condition. -/

import Derived.Test.YtjlpidjilonhfaaGreatQLI1
import Derived.Test.YtjlpidjilonhfaaGreatQLI8
import Derived.Test.YtjlpidjilonhfaaGreatQLI10
namespace Go.Proofs.YtjlpidjilonhfaaGreat
set_option linter.unusedVariables false
set_option maxHeartbeats 8000000
set_option maxRecDepth 100000
section
open Go.RowKit
theorem zF8 (C : List Int) (q : Nat) : (C.set q 0).getD q 0 = 0:=by
 rw [List.getD_eq_getElem?_getD,List.getElem?_set]
 rw [if_pos rfl]
 split <;> rfl
theorem LoneG.haz {B : YB} {N w : Nat} {Y0 Y : Yd} {e s : Int} (h : LoneG B N Y0 w e s Y) (hw : Y.ts[w]? = some none) : (∀ q,2 * N ≤ q → q ≠ 2 * N + w → Y.C.getD q 0 = Y0.C.getD q 0) ∧ (Y.C.getD (2 * N + w) 0 = Y0.C.getD (2 * N + w) 0 ∨ Y.C.getD (2 * N + w) 0 = 0):=by
 obtain ⟨k,n,hg,hke,ho,h2⟩:=h
 rcases h2 with ⟨_,hts,_⟩ | ⟨hp,hts,m,hds⟩
 ·rw [hts] at hw
  cases hw
 rcases hg.cases with ⟨h1,_⟩ | ⟨_,h1,h2,hC⟩ | ⟨i',_,h1,hj,hE,hv,_,hC⟩
 ·exact absurd h1 hp
 ·rw [hC]
  exact ⟨fun _ _ _=>rfl,.inl rfl⟩
 ·refine ⟨fun q hq hn=>?_,.inr ?_⟩
  ·rw [hC]
   unfold tkC
   rw [if_neg (by decide),if_neg (by decide),zAF _ (by omega),zAF _ (by omega),zAF _ (by omega)]
  ·rw [hC]
   exact zF8 _ _
def liveN (C : List Int) (s v : Nat) : Nat:=(List.range s).countP (fun q=>decide (C.getD (v * s + q) 0 % 4 = 1))
theorem zBI {f g : Nat → Bool} : ∀ {n : Nat},(∀ q,q < n → g q = f q) → (List.range n).countP g = (List.range n).countP f
 | 0,_=>rfl
 | n + 1,h=>by
  rw [List.range_succ,List.countP_append,List.countP_append,zBI (fun q hq=>h q (by omega)),List.countP_singleton,List.countP_singleton,h n (by omega)]
theorem zDi {f g : Nat → Bool} {q0 : Nat} : ∀ {n : Nat},q0 < n → f q0 = false → g q0 = true → (∀ q,q < n → q ≠ q0 → g q = f q) → (List.range n).countP g = (List.range n).countP f + 1
 | 0,h,_,_,_=>by omega
 | n + 1,h,hf,hg,hs=>by
  rw [List.range_succ,List.countP_append,List.countP_append,List.countP_singleton,List.countP_singleton]
  by_cases e : q0 = n
  ·subst e
   rw [zBI (f:=f) (g:=g) (fun q hq=>hs q (by omega) (by omega)),hf,hg]
   rfl
  ·rw [zDi (f:=f) (g:=g) (by omega) hf hg (fun q hq hn=>hs q (by omega) hn),hs n (by omega) (fun x=>e x.symm)]
   omega
theorem zEk (C : List Int) (s v : Nat) : liveN C s v ≤ s:=by
 have:=List.countP_le_length (p:=fun q=>decide (C.getD (v * s + q) 0 % 4 = 1)) (l:=List.range s)
 rw [List.length_range] at this
 exact this
theorem zE6 {C : List Int} {s v : Nat} (h : ∀ q,q < s → C.getD (v * s + q) 0 % 4 = 1) : liveN C s v = s:=by
 unfold liveN
 rw [List.countP_eq_length.2 (fun q hq=>decide_eq_true (h q (List.mem_range.1 hq))),List.length_range]
theorem zFI {C : List Int} {s v q : Nat} (hq : q < s) (h : C.getD (v * s + q) 0 % 4 ≠ 1) : liveN C s v < s:=by
 rcases Nat.lt_or_ge (liveN C s v) s with h1 | h1
 ·exact h1
 ·exfalso
  have h2:=zEk C s v
  have h3 : (List.range s).countP (fun q=>decide (C.getD (v * s + q) 0 % 4 = 1)) = (List.range s).length:=by
   rw [List.length_range]
   show liveN C s v = s
   omega
  have:=List.countP_eq_length.1 h3 q (List.mem_range.2 hq)
  exact h (of_decide_eq_true this)
theorem zC1 {s v q : Nat} (hq : q < s) : (v * s + q) / s = v:=by
 rw [Nat.mul_comm,Nat.mul_add_div (by omega),Nat.div_eq_of_lt hq,Nat.add_zero]
theorem zIA {s v j : Nat} (h0 : v * s ≤ j) (h1 : j < v * s + s) : j / s = v ∧ j = v * s + (j - v * s) ∧ j - v * s < s:=by
 refine ⟨?_,by omega,by omega⟩
 have:=zC1 (s:=s) (v:=v) (q:=j - v * s) (by omega)
 rw [show v * s + (j - v * s) = j by omega] at this
 exact this
theorem zGc {s v v' q j : Nat} (hq : q < s) (hj : j / s = v') (hn : v ≠ v') : v * s + q ≠ j:=fun e=>by
 rw [← e,zC1 hq] at hj
 exact hn hj
theorem zEt {C C' : List Int} {s v j : Nat} (hs : 0 < s) (hj : C.getD j 0 % 4 ≠ 1) (hj' : C'.getD j 0 % 4 = 1) (he : ∀ q,q < s → v * s + q ≠ j → C'.getD (v * s + q) 0 = C.getD (v * s + q) 0) : liveN C' s v = liveN C s v + (if j / s = v then 1 else 0):=by
 by_cases h : j / s = v
 ·rw [if_pos h]
  have hm : j = v * s + j % s:=by
   have:=Nat.div_add_mod j s
   rw [h,Nat.mul_comm] at this
   omega
  refine zDi (q0:=j % s) (Nat.mod_lt _ hs) (by rw [← hm]; exact decide_eq_false hj) (by rw [← hm]; exact decide_eq_true hj') (fun q hq hn=>?_)
  show decide _ = decide _
  rw [he q hq (by omega)]
 ·rw [if_neg h]
  refine zBI (fun q hq=>?_)
  show decide _ = decide _
  rw [he q hq (zGc hq rfl (fun e=>h e.symm))]
theorem zGg {s : Nat} {C : List Int} {w j : Nat} : ∀ {n : Nat},(∀ q,0 ≤ genW (C.getD q 0)) → j < n → j / s = w → genW (C.getD j 0) ≤ gsum s C w n
 | 0,_,h,_=>by omega
 | n + 1,h0,h,hw=>by
  rw [gsum]
  by_cases e : j = n
  ·subst e
   have hnn : ∀ m,0 ≤ gsum s C w m:=fun m=>by
    induction m with
    | zero=>exact Int.le_refl _
    | succ m ih =>
     rw [gsum]
     have:=h0 m
     split <;> omega
   have:=hnn j
   rw [if_pos hw]
   omega
  ·have ih:=zGg (n:=n) h0 (by omega) hw
   have:=h0 n
   split <;> omega
structure AlOk (B : YB) (N s m : Nat) (Yg : Nat → Yd) (Y : Yd) (i : Nat) (row : List Int) (F : Int → Int) (full : List Int) : Prop where
 tr : YTr B N Yg m
 at' : Yg m = Y
 idle : ∀ k,k < B.T → Y.ts[k]? = some none
 nds : Y.ds.length = i
 haz : ∀ v,v < B.T → Y.C.getD (2 * N + v) 0 = 0
 now : Y.now ≤ (m : Int)
 few : m ≤ i * 6000
 ord : ∃ S,IsOrder (Y.C.take N) S ∧ row = S.map (fun j=>Y.C.getD (N + j) 0) ∧ ∀ j ∈ S,F (Y.C.getD (N + j) 0) = ((j / s : Nat) : Int)
 val : ∀ v ∈ row,v < 1000 + (i : Int)
 flen : full.length = B.T
 full : ∀ v,v < B.T → full.getD v 0 = (liveN Y.C s v : Int)
section
variable {B : YB} {N s m i w : Nat} {Yg Yh Yk : Nat → Yd} {Y Y' : Yd} {row : List Int} {F : Int → Int} {full : List Int} {e x st : Int} {sn j : Nat}
theorem AlOk.usable_iff (h : AlOk B N s m Yg Y i row F full) (hs : B.s = s) (hi : i ≤ 100) {q : Nat} (hq : q < N) : usable Y.C B.t (2 * N) (q : Int) ↔ Y.C.getD q 0 % 4 ≠ 1:=by
 have hA:=h.tr.all m (Nat.le_refl _)
 have hf:=h.tr.fit m (Nat.le_refl _)
 have hg:=h.tr.gens hs m (Nat.le_refl _)
 rw [h.at'] at hA hf hg
 have hT:=h.tr.hT
 have h3:=hA.cok.st q hq
 have hgen : genW (Y.C.getD q 0) ≤ 100:=by
  have h1:=zGg (s:=s) (C:=Y.C) (w:=q / s) (j:=q) (n:=N) (fun q=>by have:=hf q; unfold genW; omega) hq rfl
  have h2:=hg (q / s)
  have h4:=List.countP_le_length (p:=putOf (q / s)) (l:=Y.ds)
  have h5:=h.nds
  unfold cntL at h2
  omega
 unfold genW at hgen
 have hf0:=hf q
 unfold usable
 rw [Int.toNat_natCast]
 constructor
 ·rintro ⟨_,h1 | ⟨h1,_⟩⟩ <;> omega
 ·intro h1
  refine ⟨by omega, ?_⟩
  rcases (by omega : Y.C.getD q 0 % 4 = 0 ∨ Y.C.getD q 0 % 4 = 2) with h2 | h2
  ·exact .inl h2
  ·refine .inr ⟨h2,fun v hv=>?_⟩
   rw [h.haz v (by omega)]
   omega
theorem zEi {B : YB} {N j q : Nat} {Y0 Y : Yd} (h : Tick B N Y0 j Y q) : Y.now ≤ Y0.now + q:=by
 induction h with
 | zero=>omega
 | skip _ _ ih=>exact ih
 | @step j Y s h T i z hk ha ih =>
  show Y.tick ≤ _
  unfold Yd.tick
  split <;> omega
theorem zBz {C : List Int} {S : List Nat} (h : IsOrder (C.take N) S) (hl : N ≤ C.length) {j : Nat} : j ∈ S ↔ j < N ∧ C.getD j 0 % 4 = 1:=by
 rw [h.mem j,List.length_take,show min N C.length = N by omega]
 constructor
 ·rintro ⟨h1,h2⟩
  have h2' : (C.take N).getD j 0 % 4 = 1:=h2
  rw [zAS h1] at h2'
  exact ⟨h1,h2'⟩
 ·rintro ⟨h1,h2⟩
  exact ⟨h1,by show (C.take N).getD j 0 % 4 = 1; rw [zAS h1]; exact h2⟩
theorem AlOk.put (h : AlOk B N s m Yg Y i row F full) (hs : B.s = s) (hs1 : 0 < s) (hi : i < 100) (hw : w < B.T) (he : e = 0 ∨ e = 1) (hx : x = 1000 + (i : Int)) (hY : Yh (m + 1) = Y.call w 0 e x st (wkB B N w false e x st)) (hsame : ∀ q,q ≤ m + 1 → Yk q = Yh q) (hold : Yh m = Y) (ht : YTr B N Yk (m + 1 + sn)) (ha : Yk (m + 1 + sn) = Y') (hk : Tick B N (Yh (m + 1)) j Y' sn) (hid : ∀ k,k < B.T → Y'.ts[k]? = some none) (hsn : sn ≤ 5924) :
  ∃ d,Y'.ds.length = i + 1 ∧ Y'.ds[i]? = some d ∧ d.kd = 0 ∧ (d.ok = true ↔ full.getD w 0 < (s : Int)) ∧ (d.ok = false → AlOk B N s (m + 1 + sn) Yk Y' (i + 1) row F full) ∧ (d.ok = true → AlOk B N s (m + 1 + sn) Yk Y' (i + 1) (if e = 0 then x :: row else row ++ [x]) (fun v=>if v = x then (w : Int) else F v) (full.set w (full.getD w 0 + 1))):=by
 have hA:=h.tr.all m (Nat.le_refl _)
 rw [h.at'] at hA
 have hT:=h.tr.hT
 have hlen:=hA.len
 have hCl : Y.C.length = 2 * N + 2 * B.T:=by omega
 have hA':=ht.all _ (Nat.le_refl _)
 rw [ha] at hA'
 have hlen':=hA'.len
 have hCl' : Y'.C.length = 2 * N + 2 * B.T:=by omega
 have hnow' : Y'.now ≤ ((m + 1 + sn : Nat) : Int):=by
  have h1:=zEi hk
  rw [hY] at h1
  have h2 : Y'.now ≤ Y.now + sn:=h1
  have:=h.now
  omega
 have hfew:=h.few
 have hdl : Y'.ds.length = i + 1:=by
  have h1:=congrArg List.length (zEq hk)
  rw [List.length_map,List.length_map,hY] at h1
  rw [h1]
  show (Y.ds ++ [_]).length = _
  rw [List.length_append,h.nds]
  rfl
 obtain ⟨d,hd⟩ : ∃ d,Y'.ds[i]? = some d:=⟨_,List.getElem?_eq_getElem (by omega)⟩
 have hask : d.ask = (⟨(w : Int),0,e,x,st,Y.moves, -1,false,0,0,0⟩ : Dd).ask:=by
  have h1:=zEq hk
  have h2 : (Y'.ds.map Dd.ask)[i]? = some d.ask:=by rw [List.getElem?_map,hd]; rfl
  rw [h1,hY] at h2
  have h3 : ((Y.ds ++ [(⟨(w : Int),0,e,x,st,Y.moves, -1,false,0,0,0⟩ : Dd)]).map Dd.ask)[i]? = some d.ask:=h2
  rw [List.getElem?_map,List.getElem?_append_right (by rw [h.nds]; exact Nat.le_refl _),h.nds,Nat.sub_self] at h3
  exact (Option.some.inj h3).symm
 unfold Dd.ask at hask
 simp only [Prod.mk.injEq] at hask
 obtain ⟨hwho,hkd,hde,hdx,hds⟩:=hask
 have hYm : Yk m = Y:=by rw [hsame m (by omega)]; exact hold
 have hYm1 : Yk (m + 1) = Y.call w 0 e x st (wkB B N w false e x st):=by rw [hsame (m + 1) (Nat.le_refl _)]; exact hY
 have hfr : d.fr = (Y.moves : Int):=by
  have hl:=ht.later (show m + 1 ≤ m + 1 + sn by omega) (Nat.le_refl _)
  rw [hYm1,ha] at hl
  obtain ⟨d',q1,_,_,_,_,_,q7,_⟩:=hl.deed i (⟨(w : Int),0,e,x,st,Y.moves, -1,false,0,0,0⟩ : Dd) (by show (Y.ds ++ [_])[i]? = _; rw [List.getElem?_append_right (by rw [h.nds]; exact Nat.le_refl _),h.nds,Nat.sub_self]; rfl)
  rw [hd] at q1
  cases q1
  exact q7
 have hout:=zHg ht (n:=m) (by omega) (by rw [hYm]; exact h.idle) hw he (by rw [hYm1,hYm]) (by rw [ha]; exact hid) (by rw [ha,hYm,hdl,h.nds]) (by rw [ha]; omega) (d:=d) (by rw [ha,hYm,h.nds]; exact hd) hkd hde hdx (by rw [hYm]; exact hfr)
 rw [hYm,ha] at hout
 obtain ⟨m0,m1⟩:=h.tr.cf.own hT hw
 rw [hs] at m0 m1
 have hws : (w : Int) * (s : Int) = ((w * s : Nat) : Int):=(Int.natCast_mul w s).symm
 rw [hws] at m0 m1
 obtain ⟨S,hS,hrow,hF⟩:=h.ord
 refine ⟨d,hdl,hd,hkd, ?_,fun hno=>?_,fun hok=>?_⟩
 ·rw [h.full w hw]
  constructor
  ·intro hok
   obtain ⟨j,r1,r2,r3,r4,_⟩:=hout.yes hok
   rw [hs,hws] at r2 r3
   have h1:=(h.usable_iff hs (by omega) r1).1 r4
   obtain ⟨_,o2,o3⟩:=zIA (s:=s) (v:=w) (j:=j) (by omega) (by omega)
   rw [o2] at h1
   have:=zFI o3 h1
   omega
  ·intro hlt
   cases hok : d.ok with
   | true=>rfl
   | false =>
    exfalso
    obtain ⟨_,_,r3⟩:=hout.no hok
    have:=zE6 (C:=Y.C) (s:=s) (v:=w) (fun q hq=>Classical.byContradiction fun hne=>by
     have h1:=(h.usable_iff hs (by omega) (q:=w * s + q) (by omega)).2 hne
     exact r3 ((w * s + q : Nat) : Int) (by rw [hs,hws]; omega) (by rw [hs,hws]; omega) h1)
    omega
 ·obtain ⟨r1,r2,_⟩:=hout.no hno
  have hCt : Y'.C.take N = Y.C.take N:=List.ext_getElem (by rw [List.length_take,List.length_take]; omega) (fun q h1 h2=>by
   rw [List.length_take] at h1
   rw [List.getElem_take,List.getElem_take]
   have h3:=r1 q (.inl (by omega))
   rw [List.getD_eq_getElem?_getD,List.getD_eq_getElem?_getD,List.getElem?_eq_getElem (by omega),List.getElem?_eq_getElem (by omega)] at h3
   exact h3)
  refine ⟨ht,ha,hid,hdl,fun v hv=>?_,hnow',by omega,⟨S,by rw [hCt]; exact hS, ?_,fun q hq=>?_⟩,fun v hv=>by have:=h.val v hv; omega,h.flen,fun v hv=>?_⟩
  ·rw [r1 _ (.inr (by omega))]
   exact h.haz v hv
  ·rw [hrow]
   refine List.map_congr_left (fun q hq=>?_)
   exact (r2 q ((zBz hS (by omega)).1 hq).1).symm
  ·rw [r2 q ((zBz hS (by omega)).1 hq).1]
   exact hF q hq
  ·rw [h.full v hv]
   congr 1
   refine (zBI (fun q hq=>?_)).symm
   show decide _ = decide _
   obtain ⟨n0,n1⟩:=h.tr.cf.own hT hv
   rw [hs] at n0 n1
   have hvs : (v : Int) * (s : Int) = ((v * s : Nat) : Int):=(Int.natCast_mul v s).symm
   rw [hvs] at n0 n1
   rw [r1 _ (.inl (by omega))]
 ·obtain ⟨j,r1,r2,r3,r4,r5,r6,r7,r8,r9,r10⟩:=hout.yes hok
  rw [hs,hws] at r2 r3
  obtain ⟨o1,o2,o3⟩:=zIA (s:=s) (v:=w) (j:=j) (by omega) (by omega)
  have hnj:=(h.usable_iff hs (by omega) r1).1 r4
  have hjS : j ∉ S:=fun hj=>hnj ((zBz hS (by omega)).1 hj).2
  have hmem : ∀ q,q ∈ S → q < N ∧ q ≠ j ∧ Y.C.getD q 0 % 4 = 1:=fun q hq=>by
   have h1:=(zBz hS (by omega)).1 hq
   exact ⟨h1.1,fun hh=>hjS (hh ▸ hq),h1.2⟩
  have hwk : ∀ q,q ∈ S → Go.Proofs.YtjlpidjilonhfaaGreat.wkey (Y'.C.take N) q = Go.Proofs.YtjlpidjilonhfaaGreat.wkey (Y.C.take N) q:=fun q hq=>by
   obtain ⟨q1,q2,_⟩:=hmem q hq
   show xkey _ _ = xkey _ _
   rw [zAS q1,zAS q1,r6 q (.inl q1) q2]
  have hS' : IsOrder (Y'.C.take N) (if e = 0 then j :: S else S ++ [j]):=by
   have hrise : S.Pairwise (fun a b=>Go.Proofs.YtjlpidjilonhfaaGreat.wkey (Y'.C.take N) a < Go.Proofs.YtjlpidjilonhfaaGreat.wkey (Y'.C.take N) b):=hS.rise.imp_of_mem (fun {a b} h1 h2 h3=>by rw [hwk a h1,hwk b h2]; exact h3)
   have hm' : ∀ q,(q = j ∨ q ∈ S) ↔ q < (Y'.C.take N).length ∧ live (Y'.C.take N) q:=fun q=>by
    rw [List.length_take,show min N Y'.C.length = N by omega]
    constructor
    ·rintro (rfl | hq)
     ·exact ⟨r1,by show (Y'.C.take N).getD q 0 % 4 = 1; rw [zAS r1]; exact r5⟩
     ·obtain ⟨q1,q2,q3⟩:=hmem q hq
      exact ⟨q1,by show (Y'.C.take N).getD q 0 % 4 = 1; rw [zAS q1,r6 q (.inl q1) q2]; exact q3⟩
    ·rintro ⟨q1,q2⟩
     by_cases hqj : q = j
     ·exact .inl hqj
     ·right
      have q3 : (Y'.C.take N).getD q 0 % 4 = 1:=q2
      rw [zAS q1,r6 q (.inl q1) hqj] at q3
      exact (zBz hS (by omega)).2 ⟨q1,q3⟩
   by_cases h0 : e = 0
   ·rw [if_pos h0]
    refine ⟨List.pairwise_cons.2 ⟨fun q hq=>?_,hrise⟩,fun q=>?_⟩
    ·obtain ⟨q1,q2,q3⟩:=hmem q hq
     have:=r9 h0 q q1 q2 q3
     show xkey _ _ < xkey _ _
     rw [zAS r1,zAS q1,r6 q (.inl q1) q2]
     exact this
    ·rw [List.mem_cons]
     exact hm' q
   ·rw [if_neg h0]
    refine ⟨List.pairwise_append.2 ⟨hrise,List.pairwise_singleton _ _,fun q hq b hb=>?_⟩,fun q=>?_⟩
    ·rw [List.mem_singleton.1 hb]
     obtain ⟨q1,q2,q3⟩:=hmem q hq
     have:=r10 (he.resolve_left h0) q q1 q2 q3
     show xkey _ _ < xkey _ _
     rw [zAS r1,zAS q1,r6 q (.inl q1) q2]
     exact this
    ·rw [List.mem_append,List.mem_singleton,Or.comm]
     exact hm' q
  have hmap : S.map (fun q=>Y'.C.getD (N + q) 0) = row:=by
   rw [hrow]
   exact List.map_congr_left (fun q hq=>r7 q (hmem q hq).1 (hmem q hq).2.1)
  have hxrow : ∀ v ∈ row,v ≠ x:=fun v hv hh=>by
   have:=h.val v hv
   omega
  refine ⟨ht,ha,hid,hdl,fun v hv=>?_,hnow',by omega,⟨_,hS', ?_,fun q hq=>?_⟩,fun v hv=>?_,by rw [List.length_set]; exact h.flen,fun v hv=>?_⟩
  ·rw [r6 _ (.inr (by omega)) (by omega)]
   exact h.haz v hv
  ·by_cases h0 : e = 0
   ·rw [if_pos h0,if_pos h0,List.map_cons,r8,hmap]
   ·rw [if_neg h0,if_neg h0,List.map_append,hmap,List.map_cons,r8]
    rfl
  ·have hq' : q = j ∨ q ∈ S:=by
    by_cases h0 : e = 0
    ·rw [if_pos h0,List.mem_cons] at hq
     exact hq
    ·rw [if_neg h0,List.mem_append,List.mem_singleton] at hq
     exact hq.symm
   rcases hq' with rfl | hq2
   ·rw [r8,if_pos rfl,o1]
   ·obtain ⟨q1,q2,q3⟩:=hmem q hq2
    have hv : Y'.C.getD (N + q) 0 ∈ row:=by
     rw [← hmap]
     exact List.mem_map_of_mem (f:=fun q=>Y'.C.getD (N + q) 0) hq2
    rw [if_neg (hxrow _ hv),r7 q q1 q2]
    exact hF q hq2
  ·have hv' : v = x ∨ v ∈ row:=by
    by_cases h0 : e = 0
    ·rw [if_pos h0,List.mem_cons] at hv
     exact hv
    ·rw [if_neg h0,List.mem_append,List.mem_singleton] at hv
     exact hv.symm
   rcases hv' with rfl | hv2
   ·omega
   ·have:=h.val v hv2
    omega
  ·obtain ⟨n0,n1⟩:=h.tr.cf.own hT hv
   rw [hs] at n0 n1
   have hvs : (v : Int) * (s : Int) = ((v * s : Nat) : Int):=(Int.natCast_mul v s).symm
   rw [hvs] at n0 n1
   have hup:=zEt (C:=Y.C) (C':=Y'.C) (s:=s) (v:=v) (j:=j) hs1 hnj r5 (fun q hq hne=>r6 _ (.inl (by omega)) hne)
   rw [hup,o1]
   have hfl:=h.flen
   by_cases hvw : w = v
   ·subst hvw
    rw [if_pos rfl,List.getD_eq_getElem?_getD,List.getElem?_set_self (by omega)]
    show full.getD w 0 + 1 = _
    rw [h.full w hw]
    omega
   ·rw [if_neg hvw,List.getD_eq_getElem?_getD,List.getElem?_set_ne hvw, ← List.getD_eq_getElem?_getD,h.full v hv]
    rfl
end
end
section
open Go.RowKit
section
variable {B : YB} {N s m i w : Nat} {Yg Yh Yk : Nat → Yd} {Y Y' : Yd} {row : List Int} {F : Int → Int} {full : List Int} {e st : Int} {sn j : Nat}
theorem zFK {T s N q : Nat} (h : ((T : Int) * (s : Int)) = N) (hs : 0 < s) (hq : q < N) : q / s < T:=by
 have h1 : T * s = N:=by
  rw [← Int.natCast_mul] at h
  omega
 rw [Nat.div_lt_iff_lt_mul hs,h1]
 exact hq
theorem AlOk.get (h : AlOk B N s m Yg Y i row F full) (hs : B.s = s) (hs1 : 0 < s) (hN : N < 1000000) (hi : i < 100) (hw : w < B.T) (he : e = 0 ∨ e = 1) (hY : Yh (m + 1) = Y.call w 1 e 0 st (wkB B N w true e 0 st)) (ht : YTr B N Yk (m + 1 + sn)) (ha : Yk (m + 1 + sn) = Y') (hk : Tick B N (Yh (m + 1)) j Y' sn) (hid : ∀ k,k < B.T → Y'.ts[k]? = some none) (hsn : sn ≤ 5924) :
  ∃ d,Y'.ds.length = i + 1 ∧ Y'.ds[i]? = some d ∧ d.kd = 1 ∧ (d.ok = true ↔ 0 < row.length) ∧ (d.ok = false → AlOk B N s (m + 1 + sn) Yk Y' (i + 1) row F full) ∧ (d.ok = true → ∃ (v : Int) (rest : List Int) (t : Nat),(e = 0 → row = v :: rest) ∧ (e ≠ 0 → row = rest ++ [v]) ∧ d.v = v ∧ (0 ≤ v ∧ v < 2000) ∧ F v = (t : Int) ∧ t < B.T ∧ AlOk B N s (m + 1 + sn) Yk Y' (i + 1) rest F (full.set t (full.getD t 0 - 1))):=by
 have hA:=h.tr.all m (Nat.le_refl _)
 have hf:=h.tr.fit m (Nat.le_refl _)
 rw [h.at'] at hA hf
 have hT:=h.tr.hT
 have hlen:=hA.len
 have hCl : Y.C.length = 2 * N + 2 * B.T:=by omega
 have hT0 : 0 < B.T:=by omega
 have hl : LoneG B N Y w e st Y':=by
  have hk':=hk
  rw [hY] at hk'
  exact LoneG.tick hf hN hT0 (LoneG.start (w:=w) h.tr.cf hT hA.len h.idle hw he) hk'
 obtain ⟨d,ho⟩:=hl.out (hid w hw)
 obtain ⟨z1,z2⟩:=hl.haz (hid w hw)
 have hnow' : Y'.now ≤ ((m + 1 + sn : Nat) : Int):=by
  have h1:=zEi hk
  rw [hY] at h1
  have h2 : Y'.now ≤ Y.now + sn:=h1
  have:=h.now
  omega
 have hfew:=h.few
 have hdl : Y'.ds.length = i + 1:=by rw [ho.ds,List.length_append,h.nds]; rfl
 have hd : Y'.ds[i]? = some d:=by rw [ho.ds,List.getElem?_append_right (by rw [h.nds]; exact Nat.le_refl _),h.nds,Nat.sub_self]; rfl
 have hhaz : ∀ v,v < B.T → Y'.C.getD (2 * N + v) 0 = 0:=fun v hv=>by
  by_cases hvw : v = w
  ·subst hvw
   rcases z2 with z | z
   ·rw [z]
    exact h.haz v hv
   ·exact z
  ·rw [z1 _ (by omega) (by omega)]
   exact h.haz v hv
 have hA':=ht.all _ (Nat.le_refl _)
 rw [ha] at hA'
 have hlen':=hA'.len
 have hCl' : Y'.C.length = 2 * N + 2 * B.T:=by omega
 obtain ⟨S,hS,hrow,hF⟩:=h.ord
 have hmem : ∀ q,q ∈ S → q < N ∧ Y.C.getD q 0 % 4 = 1:=fun q hq=>(zBz hS (by omega)).1 hq
 have hw1 : ∀ q,q < N → (Y.C.take N).getD q 0 = Y.C.getD q 0:=fun q hq=>zAS hq
 have hw2 : ∀ q,q < N → (Y'.C.take N).getD q 0 = Y'.C.getD q 0:=fun q hq=>zAS hq
 have hvs : ∀ v : Nat,v < B.T → v * s + s ≤ N:=fun v hv=>by
  obtain ⟨n0,n1⟩:=h.tr.cf.own hT hv
  rw [hs] at n0 n1
  have e1 : (v : Int) * (s : Int) = ((v * s : Nat) : Int):=(Int.natCast_mul v s).symm
  rw [e1] at n0 n1
  omega
 refine ⟨d,hdl,hd,ho.kd, ?_,fun hno=>?_,fun hok=>?_⟩
 ·rw [hrow,List.length_map]
  rcases ho.out with ⟨h1,hE,_⟩ | ⟨q,hq,h1,_,hE,_⟩
  ·rcases zBL hS hE with ⟨rfl,_⟩ | ⟨q,hq,_⟩
   ·rw [h1]
    constructor
    ·intro hh
     cases hh
    ·intro hh
     exact absurd hh (by decide)
   ·omega
  ·rcases zBL hS hE with ⟨_,hh⟩ | ⟨_,_,_,_,h5,_⟩
   ·omega
   ·rw [h1]
    exact ⟨fun _=>h5,fun _=>rfl⟩
 ·rcases ho.out with ⟨h1,hE,hC⟩ | ⟨q,hq,h1,_⟩
  case inr =>
   rw [h1] at hno
   cases hno
  have hCq : ∀ q,q < N → Y'.C.getD q 0 = Y.C.getD q 0:=fun q hq=>by rw [← hw2 q hq,hC,hw1 q hq]
  refine ⟨ht,ha,hid,hdl,hhaz,hnow',by omega,⟨S,by rw [hC]; exact hS, ?_,fun q hq=>?_⟩,fun v hv=>by have:=h.val v hv; omega,h.flen,fun v hv=>?_⟩
  ·rw [hrow]
   exact List.map_congr_left (fun q hq=>(ho.val q (hmem q hq).1).symm)
  ·rw [ho.val q (hmem q hq).1]
   exact hF q hq
  ·rw [h.full v hv]
   congr 1
   refine (zBI (fun q hq=>?_)).symm
   show decide _ = decide _
   have:=hvs v hv
   rw [hCq _ (by omega)]
 ·rcases ho.out with ⟨h1,_⟩ | ⟨q,hq,h1,hv,hE,hC⟩
  ·rw [h1] at hok
   cases hok
  have hql : live (Y.C.take N) q ∧ q ∈ S:=by
   rcases zBL hS hE with ⟨_,hh⟩ | ⟨q',e1,e2,e3,_⟩
   ·omega
   ·obtain rfl : q = q':=by omega
    exact ⟨e3,(hS.mem q).2 ⟨e2,e3⟩⟩
  obtain ⟨hql,hqS⟩:=hql
  have hl1 : Y.C.getD q 0 % 4 = 1:=(hmem q hqS).2
  have htk:=(zFn (hf q).1 (hf q).2).1
  obtain ⟨o1,o2,o3,o4⟩:=zFH (y:=tkW (Y.C.getD q 0)) hS hE htk
  have hC' : ∀ p,p < N → p ≠ q → Y'.C.getD p 0 = Y.C.getD p 0:=fun p hp hne=>by
   rw [← hw2 p hp,hC,zAF _ (fun e=>hne e.symm),hw1 p hp]
  have hCq : Y'.C.getD q 0 = tkW (Y.C.getD q 0):=by
   rw [← hw2 q hq,hC,zAL _ (by rw [List.length_take]; omega)]
  have hsub : ∀ p,p ∈ lessS e S → p ∈ S:=fun p hp=>by
   by_cases h0 : e = 0
   ·rw [o3 h0]
    exact List.mem_cons_of_mem _ hp
   ·rw [o4 h0]
    exact List.mem_append_left _ hp
  have hmp : (lessS e S).map (fun p=>Y'.C.getD (N + p) 0) = (lessS e S).map (fun p=>Y.C.getD (N + p) 0):=List.map_congr_left (fun p hp=>ho.val p (hmem p (hsub p hp)).1)
  have hdt : q / s < B.T:=zFK (T:=B.T) (s:=s) (N:=N) (by have:=h.tr.cf.lay.eq; rw [hT, ← hs]; exact this) hs1 hq
  have hr0 : e = 0 → row = Y.C.getD (N + q) 0 :: (lessS e S).map (fun p=>Y.C.getD (N + p) 0):=fun h0=>by
   rw [hrow]
   conv=>lhs; rw [o3 h0]
   rfl
  have hr1 : e ≠ 0 → row = (lessS e S).map (fun p=>Y.C.getD (N + p) 0) ++ [Y.C.getD (N + q) 0]:=fun h0=>by
   rw [hrow]
   conv=>lhs; rw [o4 h0]
   rw [List.map_append]
   rfl
  refine ⟨Y.C.getD (N + q) 0,(lessS e S).map (fun p=>Y.C.getD (N + p) 0),q / s,hr0,hr1,hv,⟨(hf (N + q)).1,(by have h8 : Y.C.getD (N + q) 0 ∈ row:=(by rw [hrow]; exact List.mem_map_of_mem (f:=fun p=>Y.C.getD (N + p) 0) hqS); have:=h.val _ h8; omega)⟩,hF q hqS,hdt,ht,ha,hid,hdl,hhaz,hnow',by omega,⟨lessS e S,by rw [hC]; exact o1,hmp.symm,fun p hp=>?_⟩,fun v hv=>?_,by rw [List.length_set]; exact h.flen,fun v hv=>?_⟩
  ·rw [ho.val p (hmem p (hsub p hp)).1]
   exact hF p (hsub p hp)
  ·have hvr : v ∈ row:=by
    by_cases h0 : e = 0
    ·rw [hr0 h0]
     exact List.mem_cons_of_mem _ hv
    ·rw [hr1 h0]
     exact List.mem_append_left _ hv
   have:=h.val v hvr
   omega
  ·have hv':=hvs v hv
   have hup:=zEt (C:=Y'.C) (C':=Y.C) (s:=s) (v:=v) (j:=q) hs1 (by rw [hCq]; omega) hl1 (fun p hp hne=>(hC' _ (by omega) hne).symm)
   have hfl:=h.flen
   by_cases hvw : q / s = v
   ·rw [if_pos hvw] at hup
    rw [hvw,List.getD_eq_getElem?_getD,List.getElem?_set_self (by omega)]
    show full.getD v 0 - 1 = _
    rw [h.full v hv,hup]
    omega
   ·rw [if_neg hvw] at hup
    rw [List.getD_eq_getElem?_getD,List.getElem?_set_ne hvw, ← List.getD_eq_getElem?_getD,h.full v hv,hup]
    rfl
theorem AlOk.rowLen (h : AlOk B N s m Yg Y i row F full) : row.length ≤ N:=by
 obtain ⟨S,hS,hrow,_⟩:=h.ord
 have:=hS.len
 rw [List.length_take] at this
 rw [hrow,List.length_map]
 omega
theorem AlOk.fullIn (h : AlOk B N s m Yg Y i row F full) {v : Nat} (hv : v < B.T) : 0 ≤ full.getD v 0 ∧ full.getD v 0 ≤ s:=by
 have:=h.full v hv
 have:=zEk Y.C s v
 omega
theorem AlOk.start (h : YTr B N Yg 0) (hs : B.s = s) : AlOk B N s 0 Yg (Yg 0) 0 [] (fun _=>0) (List.replicate B.T 0):=by
 have hz:=h.zero
 have hC0 : ∀ q,(Yg 0).C.getD q 0 = 0:=fun q=>by
  rw [hz]
  show (List.replicate (2 * N + 2 * B.T) (0 : Int)).getD q 0 = 0
  rw [List.getD_eq_getElem?_getD,List.getElem?_replicate]
  split <;> rfl
 have hmt : ∀ q : Nat,q ∈ ([] : List Nat) ↔ q < ((Yg 0).C.take N).length ∧ live ((Yg 0).C.take N) q:=fun q=>⟨fun hq=>(by cases hq),fun hq=>by
  exfalso
  have h1 : ((Yg 0).C.take N).getD q 0 % 4 = 1:=hq.2
  have h2:=hq.1
  rw [List.length_take] at h2
  rw [zAS (by omega),hC0] at h1
  exact absurd h1 (by decide)⟩
 refine ⟨h,rfl,fun k hk=>?_, ?_,fun v _=>hC0 _, ?_,Nat.zero_le _,⟨[],⟨List.Pairwise.nil,hmt⟩,rfl,fun q hq=>(by cases hq)⟩,fun v hv=>(by cases hv),List.length_replicate,fun v hv=>?_⟩
 ·rw [hz]
  show (List.replicate B.T (none : Option (Wk × Nat)))[k]? = _
  rw [List.getElem?_replicate,if_pos hk]
 ·rw [hz]
  rfl
 ·rw [hz]
  exact Int.le_refl _
 ·rw [List.getD_eq_getElem?_getD,List.getElem?_replicate,if_pos hv]
  show (0 : Int) = _
  unfold liveN
  rw [List.countP_eq_zero.2 (fun q _=>by rw [hC0]; decide)]
  rfl
theorem zBR {Q : Nat} {kd x : Int} {take : Bool} (hY : Yh (m + 1) = Y.call w kd e x st (wkB B N w take e x st)) (hw : w < B.T) (hidle : ∀ k,k < B.T → Y.ts[k]? = some none) (hq : B.s * (B.t + 1) + most B.t B.so B.d + 2 = (Q : Int)) (hsame : Yk (m + 1) = Yh (m + 1)) (ht : YTr B N Yk (m + 1 + sn)) (ha : Yk (m + 1 + sn) = Y') (hk : Tick B N (Yh (m + 1)) j Y' sn) (hid : ∀ k,k < B.T → Y'.ts[k]? = some none) : sn ≤ max Q (4 * N + 10):=by
 have hlt:=(List.getElem?_eq_some_iff.1 (hidle w hw)).1
 have hY1 : Yk (m + 1) = Y.call w kd e x st (wkB B N w take e x st):=hsame.trans hY
 have hds : (Yk (m + 1 + sn)).ds.length = (Yk (m + 1)).ds.length:=by rw [ha,zGV hk,hsame]
 have hmv:=hk.moves
 obtain ⟨_,_,g⟩:=zEu (Q:=Q) (w:=w) (D:=Y.ds.length) (T0:=wkB B N w take e x st) ht (a:=m + 1) (by
  rw [hY1]
  show (Y.ts.set w _)[w]? = _
  rw [List.getElem?_set_self hlt]) (by
  rw [hY1]
  exact OLeft.begun (who:=(w : Int)) (e:=e) (x:=x) (start:=st) (m:=(w : Int) * B.s) (nb:=2 * N + B.T) (h0:=2 * N) (hw:=2 * N + w) take ht.cf.lay hq) (fun u hu hn=>by
  rw [hY1]
  show (Y.ts.set w _)[u]? = _
  rw [List.getElem?_set_ne (fun q=>hn q.symm)]
  exact hidle u hu) hds (i:=m + 1 + sn) (by omega) (Nat.le_refl _)
 rcases g with ⟨T,h1,_⟩ | ⟨_,h1⟩
 ·rw [ha,hid w hw] at h1
  cases h1
 ·rw [ha,hmv,hsame] at h1
  omega
end
theorem zDd {T N Q sn : Nat} (h1 : sn ≤ max Q (4 * N + 10)) (hT : 1 ≤ T) : sn ≤ T * (T * bL N Q T + 1):=by
 have h2 : max Q (4 * N + 10) ≤ bL N Q T:=by
  unfold bL
  refine Nat.max_le.2 ⟨Nat.le_max_left _ _,Nat.le_trans ?_ (Nat.le_max_right _ _)⟩
  calc 4 * N + 10 = 1 * (4 * N + 10):=by rw [Nat.one_mul]
   _ ≤ (T + 1) * (4 * N + 10):=Nat.mul_le_mul_right _ (by omega)
 have h3 : bL N Q T ≤ T * bL N Q T:=by
  calc bL N Q T = 1 * bL N Q T:=by rw [Nat.one_mul]
   _ ≤ T * bL N Q T:=Nat.mul_le_mul_right _ hT
 have h4 : T * bL N Q T + 1 ≤ T * (T * bL N Q T + 1):=by
  calc T * bL N Q T + 1 = 1 * (T * bL N Q T + 1):=by rw [Nat.one_mul]
   _ ≤ T * (T * bL N Q T + 1):=Nat.mul_le_mul_right _ hT
 omega
end
section
open Go.RowKit
theorem zCB {W w : World} {l : List Thing} {B : YB} {N Q n Wd M : Nat} {Y : Yd} {J : Nat → Nat} (h : YdL W w l B N Y J n) (hb : BN B.t B.s B.so B.d N Q) (hW : B.T * bL N Q B.T + 1 = Wd) (hM : B.T * Wd = M) :
  Calls Tryz.prog 11 #[pt B.yb] w fun r w'=>r = .returned (i64 M) ∧ Below w.heap.size w w':=by
 have hT:=h.hT
 have hbl:=bL_le hb hT.symm
 have h2:=hb.lay.t2
 have h64 : Wd ≤ 64 * (65 * 16394) + 1:=by rw [← hW]; exact Nat.succ_le_succ (Nat.mul_le_mul (by omega) hbl)
 have h65 : M ≤ 64 * (64 * (65 * 16394) + 1):=by rw [← hM]; exact Nat.mul_le_mul (by omega) h64
 have E1 : Hid (IntKind.i64.wrap (B.t * (Wd : Int)) = (M : Int)):=zIo (by
  rw [show B.t * (Wd : Int) = (M : Int) from by rw [← hT, ← hM]; push_cast; rfl]
  exact IntWalk.i64_in _ (by omega))
 have HWD:=zIo (fun w=>zHd hb B.T Wd hT.symm hW w)
 obtain ⟨v,vd,X,hA⟩:=h.h
 have HA:=zIo hA
 clear h hb hW hM hT hbl h2 h64 h65 hA
 go_enter Tryz.func11,Tryz.ntmps11
 go_wp2_with fail
 refine (zBv HA.out).mono ?_
 rintro r w2 ⟨rfl,hb2⟩
 have HB2:=zIo hb2
 clear hb2 HA
 unfold cf at HWD ⊢
 go_wp2_with fail
 refine zAN ((0,true) :: (1,true) :: (2,true) :: (3,false) :: (4,true) :: (5,true) :: []) (by kernel_rfl) (by kernel_rfl) (by kernel_rfl) (by decide) (fun _ _ _ _ _ h=>h) (fun hHeld=>?_)
 repeat (first
  | (refine zAC (v := ?_) rfl ?_ ?_ ?_; rotate_left 1; rfl; (focus (intro wS hSw; have hk:=zAM hSw; go_simp; first | done | with_reducible rfl)); (try simp only [Act.put,qset]))
  | (refine zAB rfl ?_ ?_; rfl; (try simp only [Act.put,qset]))
  | (refine zAH rfl (fun K hK=>?_); go_simp; (try (first | (go_at_call 26; refine (HWD.out _).mono ?_; rintro e w' ⟨rfl,hb'⟩))); (try go_wp2_with fail); refine hK.out _ _ ?_ ?_; (focus (first | exact zAE hHeld hb' | exact zAA hHeld _ | exact hHeld)); (try clear hb'); clear hHeld hK K; intro hHeld; (try simp only [Act.put,qset])))
 first | refine zAJ ?_ | skip
 all_goals
  have HB:=zIo (zAE HB2.out (zAE (zAA (Below.refl _ _) _) hHeld))
  clear hHeld
  go_wp2_with fail
  all_goals
   go_ret
   exact ⟨zBG E1.out,HB.out⟩
end
end Go.Proofs.YtjlpidjilonhfaaGreat
