/- Contracts and plain lemmas that these laws need. No condition. -/
import Derived.Deep.CutBlock
import Derived.Deep.DeepCutAuto
import Derived.Test.YtebgjfhaolgcjaaGreatQLF1
import Derived.Test.YtebgjfhaolgcjaaGreatQLF8
import Derived.Test.YtebgjfhaolgcjaaGreatQLF9
namespace Go.Proofs.YtebgjfhaolgcjaaGreat
set_option linter.unusedVariables false
set_option maxHeartbeats 8000000
set_option maxRecDepth 100000
section
open Go.RowKit
def busyN (Y : Yd) : Nat:=Y.ts.countP Option.isSome
def FinM (pl : Nat → Pl) (t put b : Nat) (Y : Yd) (μ : Nat) : Prop := ∃ s tu,Stretch pl t put Y s tu ∧ busyN Y * (t * b + 1) + (t * b - tot s t) ≤ μ
section
variable {pl : Nat → Pl} {t n N put b μ : Nat} {Y : Yd}
theorem FinM.of (h : Books pl put Y (fun _=>0) (fun _=>0)) : FinM pl t put b Y (busyN Y * (t * b + 1) + t * b):=by
 refine ⟨fun _=>0,fun _=>0,⟨fun k T i hk=>?_,fun _=>Nat.zero_le _,fun k T i _ hu=>absurd hu (by decide),fun _ _=>⟨rfl,rfl⟩⟩, ?_⟩
 ·have h1:=h k T i hk
  have e : tot (fun _=>0) t - 0 = 0:=by rw [zDF (fun _=>rfl)]
  show OLeft (pl k) T Y.C put 0 (tot (fun _=>0) t - 0)
  rw [e]
  exact h1
 ·rw [zDF (fun _=>rfl)]
  omega
theorem zHC (ho : YOk pl t n Y) : busyN Y ≤ t:=by
 have:=List.countP_le_length (p:=Option.isSome) (l:=Y.ts)
 rw [ho.len] at this
 exact this
theorem zE7 {w : Nat} {a a' : Wk × Nat} (hw : Y.ts[w]? = some (some a)) : (Y.ts.set w (some a')).countP Option.isSome = busyN Y:=by
 obtain ⟨hl,he⟩:=List.getElem?_eq_some_iff.1 hw
 have hpos : 0 < Y.ts.countP Option.isSome:=List.countP_pos_iff.2 ⟨_,List.getElem_mem hl,by rw [he]; rfl⟩
 rw [List.countP_set hl,he]
 show Y.ts.countP Option.isSome - 1 + 1 = Y.ts.countP Option.isSome
 omega
theorem zGS {w : Nat} {a : Wk × Nat} (hw : Y.ts[w]? = some (some a)) : (Y.ts.set w none).countP Option.isSome + 1 = busyN Y:=by
 obtain ⟨hl,he⟩:=List.getElem?_eq_some_iff.1 hw
 have hpos : 0 < Y.ts.countP Option.isSome:=List.countP_pos_iff.2 ⟨_,List.getElem_mem hl,by rw [he]; rfl⟩
 rw [List.countP_set hl,he]
 show Y.ts.countP Option.isSome - 1 + 0 + 1 = Y.ts.countP Option.isSome
 omega
theorem FinM.step (h : FinM pl t put b Y μ) (ho : YOk pl t n Y) (hN : ∀ k,(pl k).N = N) (ht : 1 ≤ t) (h1 : put ≤ b) (h2 : t * (4 * N + 10) ≤ b) {w : Nat} {T : Wk} {i : Nat} {z : Int} (hw : Y.ts[w]? = some (some (T,i))) (ha : T.ask Y.C z) (hf : ∀ j,0 ≤ Y.C.getD j 0)
  {n' : Nat} (ho' : YOk pl t n' (Y.step (pl w) w T i z)) : ∃ μ',μ' < μ ∧ FinM pl t put b (Y.step (pl w) w T i z) μ':=by
 obtain ⟨s,tu,hS,hμ⟩:=h
 have hs:=hS.short ho hN ht h1 h2
 by_cases hp : (T.step (pl w) Y.C Y.now z).ph = 0
 ·obtain ⟨tu',hS',htot⟩:=hS.step ho hN hw ha hf hp
  have hs':=hS'.short ho' hN ht h1 h2
  refine ⟨busyN Y * (t * b + 1) + (t * b - tot s t) - 1,by omega,_,tu',hS', ?_⟩
  have e : busyN (Y.step (pl w) w T i z) = busyN Y:=by
   show (if (T.step (pl w) Y.C Y.now z).ph = 0 then Y.ts.set w (some (T.step (pl w) Y.C Y.now z,i)) else Y.ts.set w none).countP Option.isSome = _
   rw [if_pos hp]
   exact zE7 hw
  rw [e,htot]
  rw [htot] at hs'
  omega
 ·have e : busyN (Y.step (pl w) w T i z) + 1 = busyN Y:=by
   show (if (T.step (pl w) Y.C Y.now z).ph = 0 then Y.ts.set w (some (T.step (pl w) Y.C Y.now z,i)) else Y.ts.set w none).countP Option.isSome + 1 = _
   rw [if_neg hp]
   exact zGS hw
  refine ⟨busyN Y * (t * b + 1) + (t * b - tot s t) - 1, ?_,_,_,hS.ended ho hN hw ha hf, ?_⟩
  ·rw [← e,Nat.add_mul,Nat.one_mul] at hμ ⊢
   omega
  ·rw [← e,Nat.add_mul,Nat.one_mul,zDF (fun _=>rfl)]
   omega
end
inductive Tick (B : YB) (N : Nat) (Y0 : Yd) : Nat → Yd → Nat → Prop
 | zero : Tick B N Y0 0 Y0 0
 | skip {j : Nat} {Y : Yd} {s : Nat} (h : Tick B N Y0 j Y s) (hn : Y.ts[j % B.T]? = some none) : Tick B N Y0 (j + 1) Y s
 | step {j : Nat} {Y : Yd} {s : Nat} (h : Tick B N Y0 j Y s) (T : Wk) (i : Nat) (z : Int) (hk : Y.ts[j % B.T]? = some (some (T,i))) (ha : T.ask Y.C z) : Tick B N Y0 (j + 1) (Y.step (plOf B N (j % B.T)) (j % B.T) T i z) (s + 1)
section
variable {B B' : YB} {N : Nat} {Y0 Y Y' : Yd} {j s s' : Nat}
theorem Tick.like (h : Tick B N Y0 j Y s) (hB : B.like B') : Tick B' N Y0 j Y s:=by
 obtain ⟨yb,tb,p,c,t,st,so,d,T⟩:=B
 obtain ⟨yb',tb',p',c',t',st',so',d',T'⟩:=B'
 obtain ⟨h1,h2,h3,h4,h5⟩:=hB
 simp only at h1 h2 h3 h4 h5
 subst h1 h2 h3 h4 h5
 induction h with
 | zero=>exact .zero
 | skip h hn ih=>exact .skip ih hn
 | step h T i z hk ha ih=>exact .step ih T i z hk ha
end
end
section
open Go.RowKit
structure FnL (W w : World) (l : List Thing) (B : YB) (N : Nat) (Yf : Nat → Yd) (n : Nat) (Q b μ0 : Nat) (Y : Yd) (J : Nat → Nat) (j s : Nat) (Yg : Nat → Yd) (l0 : List Thing) (J0 : Nat → Nat) : Prop where
 yd : YdL W w l B N Y J (n + s)
 tr : YTr B N Yg (n + s)
 at' : Yg (n + s) = Y
 same : ∀ i,i ≤ n → Yg i = Yf i
 tick : Tick B N (Yf n) j Y s
 fin : ∃ μ,s + μ ≤ μ0 ∧ FinM (plOf B N) B.T Q b Y μ
 go : YGo (Yf n) Y l0 l J0 J
section
variable {W w w' : World} {l l' l0 : List Thing} {B : YB} {N n Q b μ0 j s : Nat} {Yf Yg : Nat → Yd} {Y : Yd} {J J' J0 : Nat → Nat}
theorem FnL.later (h : FnL W w l B N Yf n Q b μ0 Y J j s Yg l0 J0) (e : Below w.heap.size w w') : FnL W w' l B N Yf n Q b μ0 Y J j s Yg l0 J0:=⟨h.yd.later e,h.tr,h.at',h.same,h.tick,h.fin,h.go⟩
theorem FnL.start (h : YdL W w l B N (Yf n) J n) (ht : YTr B N Yf n) (hf : FinM (plOf B N) B.T Q b (Yf n) μ0) : FnL W w l B N Yf n Q b μ0 (Yf n) J 0 0 Yf l J :=
 ⟨h,ht,rfl,fun _ _=>rfl,.zero,⟨μ0,by omega,hf⟩,YGo.refl _ _ _⟩
theorem FnL.few (h : FnL W w l B N Yf n Q b μ0 Y J j s Yg l0 J0) : s ≤ μ0:=by obtain ⟨μ,h1,_⟩:=h.fin; omega
theorem FnL.skip (h : FnL W w l B N Yf n Q b μ0 Y J j s Yg l0 J0) {i r : Nat} (hj : j = r * B.T + i) (hi : i < B.T) (hn : Y.ts[i]? = some none) : FnL W w l B N Yf n Q b μ0 Y J (j + 1) s Yg l0 J0 :=
 ⟨h.yd,h.tr,h.at',h.same,.skip h.tick (by rw [hj,Nat.mul_comm r B.T,Nat.mul_add_mod,Nat.mod_eq_of_lt hi]; exact hn),h.fin,h.go⟩
theorem FnL.step (h : FnL W w l B N Yf n Q b μ0 Y J j s Yg l0 J0) {i r : Nat} (hj : j = r * B.T + i) (hi : i < B.T) (h1 : Q ≤ b) (h2 : B.T * (4 * N + 10) ≤ b) (hn : n + μ0 < 1000000) {T : Wk} {q : Nat} {z : Int} (hk : Y.ts[i]? = some (some (T,q))) (ha : T.ask Y.C z) (hl : YH W w' l' B (Y.step (plOf B N i) i T q z) J') (hg : YGo Y (Y.step (plOf B N i) i T q z) l l' J J') :
  ∃ Yg',FnL W w' l' B N Yf n Q b μ0 (Y.step (plOf B N i) i T q z) J' (j + 1) (s + 1) Yg' l0 J0:=by
 obtain ⟨μ,hμ,hF⟩:=h.fin
 have hlt:=h.yd.ok
 have hmv : YMv (plOf B N) Y (Y.step (plOf B N i) i T q z):=.step i T q z hk ha
 have hyd:=h.yd.next (by omega) hmv hl
 obtain ⟨μ',hμ',hF'⟩:=hF.step hlt (fun _=>rfl) (by omega) h1 h2 hk ha (fun j=>(h.yd.h.fit j).1) hyd.ok
 have hhow : YHow B N (Yg (n + s)) (Y.step (plOf B N i) i T q z):=by rw [h.at']; exact .step i T q z hk ha
 have htr:=h.tr.snoc hhow (by rw [h.at']; exact hmv) hyd.h.fit (by omega)
 refine ⟨fun k=>if k ≤ n + s then Yg k else Y.step (plOf B N i) i T q z,hyd,htr,if_neg (by omega),fun k hk=>?_, ?_,⟨μ',by omega,hF'⟩,h.go.trans hg⟩
 ·show (if k ≤ n + s then Yg k else _) = _
  rw [if_pos (by omega)]
  exact h.same k hk
 ·have e : i = j % B.T:=by rw [hj,Nat.mul_comm r B.T,Nat.mul_add_mod,Nat.mod_eq_of_lt hi]
  have:=Tick.step h.tick T q z (by rw [← e]; exact hk) ha
  rw [← e] at this
  exact this
end
def FinPost (W w : World) (l : List Thing) (B : YB) (N : Nat) (Yf : Nat → Yd) (n Q b μ0 : Nat) (J : Nat → Nat) (r : Ending) (w' : World) : Prop :=
 ∃ (s j : Nat) (l' : List Thing) (Y' : Yd) (J' : Nat → Nat) (Yg : Nat → Yd),r = .returned (i64 s) ∧ FnL W w' l' B N Yf n Q b μ0 Y' J' j s Yg l J ∧ ∀ k,k < B.T → Y'.ts[k]? = some none
theorem zFC {Y : Yd} {P : Pl} {k : Nat} {T : Wk} {i : Nat} {z : Int} {j : Nat} (hj : j ≠ k) : (Y.step P k T i z).ts[j]? = Y.ts[j]?:=by
 show (if _ then Y.ts.set k _ else Y.ts.set k _)[j]? = _
 split
 ·rw [List.getElem?_set_ne (fun e=>hj e.symm)]
 ·rw [List.getElem?_set_ne (fun e=>hj e.symm)]
theorem zHI (t s so d : Int) (w : World) : (Instr.field 24 (cf t s so d) 0).run Tryz.prog w = .ok (i64 t) w:=by
 simp [Instr.field,go_sem,asAgg]
theorem zG6 {W w : World} {l : List Thing} {B : YB} {N n Q b μ0 : Nat} {Yf : Nat → Yd} {J : Nat → Nat} (h : YdL W w l B N (Yf n) J n) (ht : YTr B N Yf n) (hf : FinM (plOf B N) B.T Q b (Yf n) μ0) (h1 : Q ≤ b) (h2 : B.T * (4 * N + 10) ≤ b) (hn : n + μ0 < 1000000) :
  Calls Tryz.prog 28 #[pt B.yb] w (FinPost W w l B N Yf n Q b μ0 J):=by
 have HF0:=zHe (FnL.start h ht hf)
 have HT:=zHe h.hT
 have hT64 : B.T ≤ 64:=by have:=h.cf.lay.t2; have:=h.hT; omega
 clear h ht hf
 go_enter Tryz.func28,Tryz.ntmps28
 go_wp2_with fail
 go_loopw [3,4] (fun sv bv wr => ∃ (r s : Nat) (bz : Bool) (lx : List Thing) (Y : Yd) (Jx : Nat → Nat) (Yg : Nat → Yd),sv = .int .i64 s ∧ bv = .bool bz ∧ Hid (FnL W wr lx B N Yf n Q b μ0 Y Jx (r * B.T) s Yg l J) ∧ Hid (bz = false → ∀ k,k < B.T → Y.ts[k]? = some none)) (fun sv bv _=>2 * (μ0 - (RowKit.intOf sv).toNat) + (match bv with | .bool true=>1 | _=>0))
 case atStart=>exact ⟨0,0,true,_,_,_,_,rfl,rfl,(by rw [Nat.zero_mul]; exact HF0),zHe (fun h=>by cases h)⟩
 case round =>
  clear HF0
  obtain ⟨r,s,bz,lx,Y,Jx,Yg,rfl,rfl,HF,HZ⟩:=hrel
  cases bz with
  | false =>
   go_wp2_with fail
   go_ret
   exact ⟨s,_,lx,Y,Jx,Yg,rfl,HF.out,HZ.out trivial⟩
  | true =>
   obtain ⟨v,vd,X,hA⟩:=HF.out.yd.h
   have HA:=zHe hA
   clear hA HZ
   go_wp2_with fail
   refine (zFq HA.out).mono ?_
   rintro r2 w2 ⟨rfl,hb⟩
   have HF2:=zHe (HF.out.later hb)
   have HS0 : Hid (s ≤ s):=zHe (Nat.le_refl _)
   clear hb HA HF
   have hfl:=zHI B.t B.s B.so B.d w2
   go_wp2_with fail
   clear hfl
   go_loopw [3,4,10] (fun sv bv iv wx => ∃ (s' i : Nat) (bz : Bool) (ly : List Thing) (Y : Yd) (Jy : Nat → Nat) (Yg : Nat → Yd),i ≤ B.T ∧ s ≤ s' ∧ sv = .int .i64 s' ∧ bv = .bool bz ∧ iv = .int .i64 i ∧ Hid (FnL W wx ly B N Yf n Q b μ0 Y Jy (r * B.T + i) s' Yg l J) ∧ Hid (bz = true → s < s') ∧ Hid (bz = false → ∀ k,k < i → Y.ts[k]? = some none)) (fun _ _ iv _=>B.T - (RowKit.intOf iv).toNat)
   case atStart=>exact ⟨s,0,false,_,_,_,_,Nat.zero_le _,Nat.le_refl _,rfl,rfl,rfl,HF2,zHe (fun h=>by cases h),zHe (fun _ k hk=>absurd hk (Nat.not_lt_zero _))⟩
   case round =>
    clear HF2
    obtain ⟨s',i,bz,ly,Y,Jy,Yg,hi,hs,rfl,rfl,rfl,HF,HU,HV⟩:=hrel
    rcases Nat.lt_or_ge i B.T with hlt | hge
    ·have hi' : (i : Int) < B.t:=by have:=HT.out; omega
     go_wp2_with fail
     refine (zCK HF.out.yd.cf HF.out.yd.h HF.out.yd.ok (by have:=HF.out.few; omega) i).mono ?_
     rintro r2 w3 ⟨bs,l3,J3,Y3,rfl,hl3,hg3,h3⟩
     have HL:=zHe hl3
     have HG:=zHe hg3
     have H3:=zHe h3
     clear hl3 hg3 h3
     cases bs with
     | false =>
      have HI : Hid (Y.ts[i]? = some none):=zHe (by
       rcases H3.out with ⟨_,_,h5⟩ | ⟨h4,_⟩
       ·cases hq : Y.ts[i]? with
        | none =>
         rw [List.getElem?_eq_none_iff] at hq
         have:=HF.out.yd.ok.len
         omega
        | some a =>
         cases a with
         | none=>rfl
         | some a=>exact absurd hq (h5 i rfl a)
       ·cases h4)
      have HF3 : Hid (FnL W w3 l3 B N Yf n Q b μ0 Y J3 (r * B.T + (i + 1)) s' Yg l J):=zHe (by
       rcases H3.out with ⟨_,h4,_⟩ | ⟨h4,_⟩
       ·have hL:=HL.out
        have hG:=HG.out
        rw [h4] at hL hG
        have h:=HF.out.skip rfl hlt HI.out
        exact ⟨⟨hL,h.yd.ok,h.yd.len,h.yd.cf,h.yd.hT⟩,h.tr,h.at',h.same,h.tick,h.fin,h.go.trans hG⟩
       ·cases h4)
      clear HF HL HG H3
      cases bz with
      | true =>
       go_wp2_with fail
       go_roundw
       case rel=>exact ⟨s',i + 1,true,l3,Y,J3,Yg,by have:=HT.out; omega,hs,rfl,rfl,by go_num,HF3,zHe (fun _=>HU.out trivial),zHe (fun h=>by cases h)⟩
       case measure=>have:=HT.out; first | omega | (simp [RowKit.intOf]; done) | (simp [RowKit.intOf]; omega)
      | false =>
       go_wp2_with fail
       refine (HF3.out.yd.busy i false ⟨_,HI.out,rfl⟩).mono ?_
       rintro r2 w4 ⟨rfl,rfl⟩
       go_wp2_with fail
       go_roundw
       case rel=>exact ⟨s',i + 1,false,l3,Y,J3,Yg,by have:=HT.out; omega,hs,rfl,rfl,by go_num,HF3,zHe (fun h=>by cases h),zHe (fun _ k hk=>by
        by_cases e : k = i
        ·rw [e]; exact HI.out
        ·exact HV.out trivial k (by omega))⟩
       case measure=>have:=HT.out; first | omega | (simp [RowKit.intOf]; done) | (simp [RowKit.intOf]; omega)
     | true =>
      obtain ⟨T,q,z,HK,Yg3,HF3⟩ : ∃ (T : Wk) (q : Nat) (z : Int),Hid (Y.ts[i]? = some (some (T,q))) ∧ ∃ Yg3,Hid (FnL W w3 l3 B N Yf n Q b μ0 (Y.step (plOf B N i) i T q z) J3 (r * B.T + (i + 1)) (s' + 1) Yg3 l J):=by
       rcases H3.out with ⟨h4,_⟩ | ⟨_,k,T,q,z,h5,h6,h7,h8⟩
       ·cases h4
       ·obtain rfl : k = i:=by omega
        have hL:=HL.out
        have hG:=HG.out
        rw [h8] at hL hG
        obtain ⟨Yg3,h9⟩:=HF.out.step rfl hlt h1 h2 hn h6 h7 hL hG
        exact ⟨T,q,z,zHe h6,Yg3,zHe h9⟩
      obtain ⟨a,HA1⟩ : ∃ a,Hid ((Y.step (plOf B N i) i T q z).ts[i]? = some a):=by
       cases hq : (Y.step (plOf B N i) i T q z).ts[i]? with
       | none =>
        rw [List.getElem?_eq_none_iff] at hq
        have:=HF3.out.yd.ok.len
        omega
       | some a=>exact ⟨a,zHe rfl⟩
      have HV3 : Hid (bz = false → ∀ k,k < i → (Y.step (plOf B N i) i T q z).ts[k]? = some none):=zHe (fun hb k hk=>by
       rw [zFC (by omega)]
       exact HV.out hb k hk)
      have hsb : s' < 1000000:=by have:=HF3.out.few; omega
      generalize Y.step (plOf B N i) i T q z = Y4 at HF3 HA1 HV3
      clear HF HL HG H3 HV
      cases bz with
      | true =>
       go_wp2_with fail
       go_roundw
       case rel=>exact ⟨s' + 1,i + 1,true,l3,Y4,J3,Yg3,by have:=HT.out; omega,by omega,by go_num,rfl,by go_num,HF3,zHe (fun _=>by omega),zHe (fun h=>by cases h)⟩
       case measure=>have:=HT.out; first | omega | (simp [RowKit.intOf]; done) | (simp [RowKit.intOf]; omega)
      | false =>
       go_wp2_with fail
       refine (HF3.out.yd.busy i a.isSome ⟨_,HA1.out,rfl⟩).mono ?_
       rintro r2 w4 ⟨rfl,rfl⟩
       go_wp2_with fail
       go_roundw
       case rel=>exact ⟨s' + 1,i + 1,a.isSome,l3,Y4,J3,Yg3,by have:=HT.out; omega,by omega,by go_num,rfl,by go_num,HF3,zHe (fun _=>by omega),zHe (fun hz k hk=>by
        by_cases e : k = i
        ·rw [e,HA1.out]
         cases a with
         | none=>rfl
         | some a=>cases hz
        ·exact HV3.out trivial k (by omega))⟩
       case measure=>have:=HT.out; first | omega | (simp [RowKit.intOf]; done) | (simp [RowKit.intOf]; omega)
    ·obtain rfl : i = B.T:=by omega
     have hnn : ¬ (B.T : Int) < B.t:=by have:=HT.out; omega
     have hfew:=HF.out.few
     go_wp2_with fail
     go_roundw
     case rel=>exact ⟨r + 1,s',bz,ly,Y,Jy,Yg,rfl,rfl,(by rw [Nat.add_mul,Nat.one_mul]; exact HF),HV⟩
     case measure =>
      cases bz with
      | true =>
       have:=HU.out rfl
       simp [RowKit.intOf]
       omega
      | false =>
       simp [RowKit.intOf]
       omega
end
section
open Go.RowKit
theorem zGF (w : World) (m : CM) : IsAt (w.alloc (m.obj 39)) (some ⟨w.heap.size,0,none⟩) (flatM [m]):=fun _ =>
 ⟨w.heap.size,0,rfl,by simp,fun j u hj=>by
  rw [Nat.zero_add]
  have h:=(IsObj.made w m.list 39).at' j u (by rw [flatM,flatM,List.append_nil] at hj; exact hj)
  exact h⟩
theorem EncIs.yes {w' : World} {base : Nat} {t s so d : Int} {ms : List CM} {v : Value} {e : Int} (h : EncIs w' base t s so d ms v e) (hr : rightC t s so d = true) (hn : ms.length ≤ 65536) (hm : ∀ m ∈ ms,m.Right) : e = 0 ∧ Own8 w' base v ([t,s,so,d] ++ encs ms):=by
 cases h with
 | conf h=>rw [hr] at h; cases h
 | many _ h=>omega
 | arg _ _ h=>obtain ⟨m,h1,h2⟩:=h; exact absurd (hm m h1) h2
 | ok _ _ _ _ ho=>exact ⟨rfl,ho⟩
theorem zB3 {a : Int} {l : List Int} (h0 : 0 ≤ a) (h1 : a ≤ 255) (hl : Byt l) : Byt (a :: l):=fun b hb=>by
 rcases List.mem_cons.1 hb with rfl | hb
 ·exact ⟨h0,h1⟩
 ·exact hl b hb
theorem zCm {t s so d : Int} {ms : List CM} (hr : rightC t s so d = true) (hm : ∀ m ∈ ms,m.Right) : Byt ([t,s,so,d] ++ encs ms):=by
 have h:=of_decide_eq_true hr
 exact zB3 (by omega) (by omega) (zB3 (by omega) (by omega) (zB3 (by omega) (by omega) (zB3 (by omega) (by omega) (zDJ hm))))
theorem DecIs.yes {l : List Int} {ms : List CM} {n e : Int} (h : DecIs l ms n e) (he : e = 0) : (∀ m ∈ ms,m.Good) ∧ ms.length ≤ 65536 ∧ l = encs ms:=by
 cases h with
 | ok _ h1 h2 h3=>exact ⟨h1,h2,h3⟩
 | form _ _ _ _ _ _ _=>exact absurd he (by decide)
 | many _ _ _ _ _ _ _=>exact absurd he (by decide)
theorem DecPost.yes {w' : World} {base : Nat} {l : List Int} {v : Value} {n e t s so d : Int} {ms : List CM} (h : DecPost w' base l v n e) (hl : l = t :: s :: so :: d :: encs ms) (hr : rightC t s so d = true) (hg : ∀ m ∈ ms,m.Good) (hn : ms.length ≤ 65536) :
  e = 0 ∧ n = (l.length : Int) ∧ ∃ A cp,v = scV t s so d (.slice A ms.length cp) ∧ w'.ownsRow base 39 7 (.slice A ms.length cp) ms.length (flatM ms):=by
 cases h with
 | short h =>
  rw [hl] at h
  simp at h
  omega
 | conf t' s' so' d' r' h hr' =>
  rw [hl] at h
  simp only [List.cons.injEq] at h
  obtain ⟨rfl,rfl,rfl,rfl,_⟩:=h
  rw [hr] at hr'
  cases hr'
 | bad t' s' so' d' r' n' e' h hr' hd he =>
  rw [hl] at h
  simp only [List.cons.injEq] at h
  obtain ⟨rfl,rfl,rfl,rfl,rfl⟩:=h
  exact absurd (hd.of hg hn).2.2 he
 | ok t' s' so' d' r' ms' A cp h hr' hd ho =>
  rw [hl] at h
  simp only [List.cons.injEq] at h
  obtain ⟨rfl,rfl,rfl,rfl,rfl⟩:=h
  obtain ⟨rfl,_⟩:=hd.of hg hn
  exact ⟨rfl,rfl,A,cp,rfl,ho⟩
end
section
open Go.RowKit
def B19 : YB:=⟨0,0,0,0,(2 : Nat),1,0,0,2⟩
def lookF (B : YB) (N : Nat) (z : Nat → Int) (Y0 : Yd) : Nat → Yd × Nat
 | 0=>(Y0,0)
 | j + 1=>match (lookF B N z Y0 j).1.ts[j % B.T]? with
  | some (some (T,i))=>((lookF B N z Y0 j).1.step (plOf B N (j % B.T)) (j % B.T) T i (z j),(lookF B N z Y0 j).2 + 1)
  | _=>lookF B N z Y0 j
theorem Tick.look {B : YB} {N : Nat} {Y0 Y : Yd} {j s : Nat} {z : Nat → Int} (h : Tick B N Y0 j Y s)
  (hz : ∀ (j : Nat) (T : Wk) (i : Nat) (z' : Int),(lookF B N z Y0 j).1.ts[j % B.T]? = some (some (T,i)) → T.ask (lookF B N z Y0 j).1.C z' → T.step (plOf B N (j % B.T)) (lookF B N z Y0 j).1.C (lookF B N z Y0 j).1.now z' = T.step (plOf B N (j % B.T)) (lookF B N z Y0 j).1.C (lookF B N z Y0 j).1.now (z j)) :
  lookF B N z Y0 j = (Y,s):=by
 induction h with
 | zero=>rfl
 | @skip j Y s h hn ih =>
  show (match (lookF B N z Y0 j).1.ts[j % B.T]? with
   | some (some (T,i))=>((lookF B N z Y0 j).1.step (plOf B N (j % B.T)) (j % B.T) T i (z j),(lookF B N z Y0 j).2 + 1)
   | _=>lookF B N z Y0 j) = _
  rw [ih]
  simp only
  rw [hn]
 | @step j Y s h T i z' hk ha ih =>
  have e:=hz j T i z' (by rw [ih]; exact hk) (by rw [ih]; exact ha)
  show (match (lookF B N z Y0 j).1.ts[j % B.T]? with
   | some (some (T,i))=>((lookF B N z Y0 j).1.step (plOf B N (j % B.T)) (j % B.T) T i (z j),(lookF B N z Y0 j).2 + 1)
   | _=>lookF B N z Y0 j) = _
  rw [ih] at e ⊢
  simp only at e ⊢
  rw [hk]
  simp only
  unfold Yd.step
  rw [e]
theorem zDR {B : YB} {N : Nat} {Y0 : Yd} {z : Nat → Int} {q : Nat} (h : ∀ a,a ∈ (lookF B N z Y0 q).1.ts → a = none) : ∀ k,lookF B N z Y0 (q + k) = lookF B N z Y0 q
 | 0=>rfl
 | k + 1=>by
  have ih:=zDR h k
  show (match (lookF B N z Y0 (q + k)).1.ts[(q + k) % B.T]? with
   | some (some (T,i))=>((lookF B N z Y0 (q + k)).1.step (plOf B N ((q + k) % B.T)) ((q + k) % B.T) T i (z (q + k)),(lookF B N z Y0 (q + k)).2 + 1)
   | _=>lookF B N z Y0 (q + k)) = _
  rw [ih]
  cases hq : (lookF B N z Y0 q).1.ts[(q + k) % B.T]? with
  | none=>rfl
  | some a =>
   have:=h a (List.mem_of_getElem? hq)
   subst this
   rfl
def Y19 : Yd:=(yd0 2 2).call 0 0 0 7 0 (wkB B19 2 0 false 0 7 0)
theorem zG0 : ∀ j,j < 8 → (∃ k i,(lookF B19 2 (fun _=>0) Y19 j).1.ts = [some (.pu k,i),none]) ∨ j = 7 ∧ (lookF B19 2 (fun _=>0) Y19 j).1.ts = [none,none]
 | 0,_=>.inl ⟨_,_,rfl⟩
 | 1,_=>.inl ⟨_,_,rfl⟩
 | 2,_=>.inl ⟨_,_,rfl⟩
 | 3,_=>.inl ⟨_,_,rfl⟩
 | 4,_=>.inl ⟨_,_,rfl⟩
 | 5,_=>.inl ⟨_,_,rfl⟩
 | 6,_=>.inl ⟨_,_,rfl⟩
 | 7,_=>.inr ⟨rfl,rfl⟩
 | j + 8,h=>by omega
theorem FinM.mono {pl : Nat → Pl} {t put b μ μ' : Nat} {Y : Yd} (h : FinM pl t put b Y μ) (hm : μ ≤ μ') : FinM pl t put b Y μ':=by
 obtain ⟨s,tu,h1,h2⟩:=h
 exact ⟨s,tu,h1,Nat.le_trans h2 hm⟩
theorem zFl (w : Nat) : updN (fun _=>0) w 0 = fun _=>0:=funext (fun k=>by unfold updN; split <;> rfl)
theorem YTr.books {B : YB} {N m Q : Nat} {Y : Nat → Yd} (h : YTr B N Y m) (hQ : B.s * (B.t + 1) + most B.t B.so B.d + 2 = (Q : Int)) : ∀ i,i ≤ m → Books (plOf B N) Q (Y i) (fun _=>0) (fun _=>0)
 | 0,_=>Books.none (fun k a hk=>by
  rw [h.zero] at hk
  have hk' : (List.replicate B.T (none : Option (Wk × Nat)))[k]? = some (some a):=hk
  rw [List.getElem?_replicate] at hk'
  split at hk' <;> cases hk')
 | i + 1,hi=>by
  have ih:=YTr.books h hQ i (by omega)
  have hok:=(h.all i (by omega)).ok
  have hw:=h.how i (by omega)
  generalize Y (i + 1) = Z at hw
  cases hw with
  | rest=>exact ih
  | call w take kd e x s hq he hk =>
   have h1:=ih.call (kd:=kd) (e:=e) (x:=x) (s:=s) hq (OLeft.begun (who:=(w : Int)) (e:=e) (x:=x) (start:=s) (m:=(w : Int) * B.s) (nb:=2 * N + B.T) (h0:=2 * N) (hw:=2 * N + w) (C:=(Y i).C) take h.cf.lay hQ)
   rw [zFl] at h1
   exact h1
  | step w T i2 z hq ha =>
   obtain ⟨_,g2⟩:=ih.step hok (fun _=>rfl) hq ha (fun j=>(h.fit i (by omega) j).1) (dl:=1) (.inr (Nat.le_refl _))
   exact fun k T' i' hk=>(g2 k T' i' hk).again.more (Nat.zero_le _)
  | pass k hk=>exact ih
structure Fin4 (W w : World) (l : List Thing) (B : YB) (N : Nat) (Yf : Nat → Yd) (n : Nat) (J : Nat → Nat) (w' : World) (s j : Nat) (l' : List Thing) (Y' : Yd) (J' : Nat → Nat) (Yg : Nat → Yd) : Prop where
 yd : YdL W w' l' B N Y' J' (n + s)
 tr : YTr B N Yg (n + s)
 at' : Yg (n + s) = Y'
 same : ∀ i,i ≤ n → Yg i = Yf i
 tick : Tick B N (Yf n) j Y' s
 few : s ≤ 5924
 go : YGo (Yf n) Y' l l' J J'
 idle : ∀ k,k < B.T → Y'.ts[k]? = some none
theorem zGc {W w : World} {l : List Thing} {B : YB} {N n : Nat} {Yf : Nat → Yd} {J : Nat → Nat} (h : YdL W w l B N (Yf n) J n) (ht : YTr B N Yf n) (hn : n < 990000) (t4 : B.T ≤ 4) (n16 : N ≤ 16) (s4 : B.s ≤ 4) (d3 : B.d ≤ 3) :
  Calls Tryz.prog 28 #[pt B.yb] w fun r w' => ∃ (s j : Nat) (l' : List Thing) (Y' : Yd) (J' : Nat → Nat) (Yg : Nat → Yd),r = .returned (i64 s) ∧ Fin4 W w l B N Yf n J w' s j l' Y' J' Yg:=by
 have hT:=h.hT
 have hs1:=h.cf.lay.s1
 have ht1:=h.cf.lay.t1
 have hd0:=h.cf.d0
 have hm : 0 ≤ most B.t B.so B.d ∧ most B.t B.so B.d ≤ 6:=by
  unfold most
  repeat' split
  all_goals omega
 have hst : 0 ≤ B.s * (B.t + 1) ∧ B.s * (B.t + 1) ≤ 20:=⟨Int.mul_nonneg (by omega) (by omega),by
  have h1 : B.s * (B.t + 1) ≤ 4 * (B.t + 1):=Int.mul_le_mul_of_nonneg_right s4 (by omega)
  omega⟩
 obtain ⟨Q,hQ⟩ : ∃ Q : Nat,B.s * (B.t + 1) + most B.t B.so B.d + 2 = (Q : Int):=⟨(B.s * (B.t + 1) + most B.t B.so B.d + 2).toNat,by omega⟩
 have hbk:=ht.books hQ n (Nat.le_refl _)
 have hbu:=zHC h.ok
 have hf : FinM (plOf B N) B.T Q 296 (Yf n) 5924:=(FinM.of (t:=B.T) (b:=296) hbk).mono (by
  have h1 : busyN (Yf n) * (B.T * 296 + 1) ≤ 4 * (4 * 296 + 1):=Nat.mul_le_mul (by omega) (by omega)
  omega)
 have h2 : B.T * (4 * N + 10) ≤ 296:=Nat.le_trans (Nat.mul_le_mul t4 (show 4 * N + 10 ≤ 74 by omega)) (by decide)
 refine (zG6 h ht hf (by omega) h2 (by omega)).mono ?_
 rintro r w' ⟨s,j,l',Y',J',Yg,rfl,h3,h4⟩
 exact ⟨s,j,l',Y',J',Yg,rfl,h3.yd,h3.tr,h3.at',h3.same,h3.tick,h3.few,h3.go,h4⟩
theorem fin19 {j s : Nat} {Y : Yd} (h : Tick B19 2 Y19 j Y s) (hi : ∀ k,k < 2 → Y.ts[k]? = some none) : s = 4:=by
 have h7 : ∀ a,a ∈ (lookF B19 2 (fun _=>0) Y19 7).1.ts → a = none:=fun a ha=>by
  have e : (lookF B19 2 (fun _=>0) Y19 7).1.ts = [none,none]:=rfl
  rw [e] at ha
  simpa using ha
 have hst:=zDR h7
 have hl:=h.look (z:=fun _=>0) (fun j T i z' hk _=>by
  rcases Nat.lt_or_ge j 7 with hj | hj
  ·rcases zG0 j (by omega) with ⟨k,q,e⟩ | ⟨e,_⟩
   ·rw [e] at hk
    rcases (show j % 2 = 0 ∨ j % 2 = 1 by omega) with e2 | e2
    ·have hk' : [some (Wk.pu k,q),none][j % 2]? = some (some (T,i)):=hk
     rw [e2] at hk'
     cases hk'
     rfl
    ·have hk' : [some (Wk.pu k,q),none][j % 2]? = some (some (T,i)):=hk
     rw [e2] at hk'
     cases hk'
   ·omega
  ·obtain ⟨k,rfl⟩ : ∃ k,j = 7 + k:=⟨j - 7,by omega⟩
   rw [hst] at hk
   have:=h7 _ (List.mem_of_getElem? hk)
   cases this)
 rcases Nat.lt_or_ge j 7 with hj | hj
 ·rcases zG0 j (by omega) with ⟨k,q,e⟩ | ⟨e,_⟩
  ·rw [hl] at e
   have:=hi 0 (by decide)
   have e' : Y.ts = _:=e
   rw [e'] at this
   cases this
  ·omega
 ·obtain ⟨k,rfl⟩ : ∃ k,j = 7 + k:=⟨j - 7,by omega⟩
  rw [hst] at hl
  have e:=congrArg Prod.snd hl
  exact e.symm.trans rfl
theorem zHE {B : YB} {N : Nat} {Y Y' : Yd} {k : Nat} {e x a : Int} (h : PDo B N ⟨0,k,0,e,x,0,0⟩ Y Y' a) (hk : (k : Int) < B.t) (he : e = 0 ∨ e = 1) (hq : Y.ts[k]? = some Option.none) : a = 0 ∧ Y' = Y.call k 0 e x 0 (wkB B N k false e x 0):=by
 have ha : CM.asks ⟨0,k,0,e,x,0,0⟩:=⟨.inl rfl,he⟩
 cases h with
 | out h hw =>
  rcases hw with hw | hw | hw
  ·have hw' : (k : Int) < 0:=hw
   omega
  ·have hw' : B.t ≤ (k : Int):=hw
   omega
  ·exact absurd ha hw
 | busy k' a' h hw ha' hb =>
  have hw' : (k : Int) = k':=hw
  obtain rfl : k = k':=by omega
  rw [hq] at hb
  cases hb
 | call k' take h hw hk' he' hq' =>
  have hw' : (k : Int) = k':=hw
  obtain rfl : k = k':=by omega
  cases take with
  | false=>exact ⟨rfl,rfl⟩
  | true=>exact absurd (show (1 : Int) = 0 from hk') (by decide)
 | none h=>exact absurd (show (0 : Int) = 1 from h) (by decide)
 | step k' T i z h=>exact absurd h (by show ¬ (0 : Int) = 1; decide)
 | pass h=>exact absurd h (by show ¬ (0 : Int) = 2; decide)
 | still h=>exact absurd h (by show ¬ (0 : Int) = 2; decide)
 | other h0=>exact absurd rfl h0
theorem y19_of {yb ytb p c : Nat} {Yf : Nat → Yd} {An : List Int} (h : PTr ⟨yb,ytb,p,c,(2 : Nat),1,0,0,2⟩ 2 [⟨0,0,0,0,7,0,0⟩] Yf An) : Yf 1 = Y19:=by
 obtain ⟨a,ha⟩ : ∃ a,An[0]? = some a:=⟨_,List.getElem?_eq_getElem (by rw [h.len]; decide)⟩
 have h1:=h.at' 0 _ a rfl ha
 have hz : Yf 0 = yd0 2 2:=h.tr.zero
 rw [hz] at h1
 have h2:=(zHE (k:=0) (e:=0) (x:=7) h1 (by show (0 : Int) < (2 : Nat); decide) (.inl rfl) rfl).2
 exact h2
theorem lay212 : Lay ((2 : Nat) : Int) 1 ((2 : Nat) : Int):=⟨by decide,by decide,by decide,by decide,by decide,by decide,by decide,by decide⟩
theorem zAf (w : World) : Calls Tryz.prog 9 #[] w fun r w'=>r = .returned (.bool true) ∧ Below w.heap.size w w':=by
 have hI:=(zGF w ⟨0,0,0,0,7,0,0⟩).later (zAA (Below.refl _ _) (.cells #[.int .i64 2,.int .i64 1,.int .i64 0,.int .i64 0,.slice (some ⟨w.heap.size,0,none⟩) 1 1] 29))
 have HI:=zHe hI
 have HB:=zHe (zAA (zAA (Below.refl w.heap.size w) ((⟨0,0,0,0,7,0,0⟩ : CM).obj 39)) (.cells #[.int .i64 2,.int .i64 1,.int .i64 0,.int .i64 0,.slice (some ⟨w.heap.size,0,none⟩) 1 1] 29))
 clear hI
 go_enter Tryz.func9,Tryz.ntmps9
 go_wp2_with fail
 refine (zBy 2 1 0 0 2 (some ⟨w.heap.size,0,none⟩) 1 [⟨0,0,0,0,7,0,0⟩] _ HI.out (fun m hm=>by rw [List.mem_singleton.1 hm]; exact ⟨by decide,by decide⟩) (by decide) lay212 (by decide) (by decide) (by decide) (by decide)).mono ?_
 rintro r w2 ⟨W,l,yb,ytb,p,c,Yf,An,J,g,rfl,hb,hP⟩
 have HBW:=zHe (zAB HB.out hb)
 have HP:=zHe hP
 clear hb hP HB HI
 simp only [List.length_cons,List.length_nil]
 go_wp2_with fail
 refine (zGc (n:=1) HP.out.yd HP.out.tr.tr (by decide) (by show 2 ≤ 4; decide) (by decide) (by show (1 : Int) ≤ 4; decide) (by show (0 : Int) ≤ 3; decide)).mono ?_
 rintro r w3 ⟨s,j,l',Y',J',Yg,rfl,hF⟩
 have hs : s = 4:=fin19 (j:=j) (Y:=Y') (by have h:=hF.tick.like (B':=B19) ⟨rfl,rfl,rfl,rfl,rfl⟩; rw [y19_of HP.out.tr] at h; exact h) (fun k hk=>hF.idle k hk)
 subst hs
 have HF:=zHe hF
 clear hF HP
 go_wp2_with fail
 refine (HF.out.yd.busy 0 false ⟨none,HF.out.idle 0 (by show 0 < 2; decide),rfl⟩).mono ?_
 rintro r w4 ⟨rfl,rfl⟩
 have HZ:=zHe (zAB HBW.out HF.out.yd.h.below)
 go_wp2_with fail
 go_ret
 exact ⟨rfl,HZ.out⟩
end
section
open Go.RowKit
theorem and_63 (a : Int) : bits .and .i64 a 63 = a % 64:=by rw [show (63 : Int) = ((63 : Nat) : Int) from rfl,zC8 a 63 6 rfl (by decide)]; rfl
theorem zHJ (a : Int) : bits .and .i64 a 255 = a % 256:=by rw [show (255 : Int) = ((255 : Nat) : Int) from rfl,zC8 a 255 8 rfl (by decide)]; rfl
theorem zGf (a : Int) : bits .and .i64 a 32767 = a % 32768:=by rw [show (32767 : Int) = ((32767 : Nat) : Int) from rfl,zC8 a 32767 15 rfl (by decide)]; rfl
theorem and_31 (a : Int) : bits .and .i64 a 31 = a % 32:=by rw [show (31 : Int) = ((31 : Nat) : Int) from rfl,zC8 a 31 5 rfl (by decide)]; rfl
end
section
open Go.RowKit
structure LM where
 kind : Int
 who : Int
 n : Int
 start : Int
 take : Bool
 right : Bool
 value : Int
 odd : Int
abbrev LM.val (v : LM) : Value:=.agg #[.int .i64 v.kind,.int .i64 v.who,.int .i64 v.n,.int .i64 v.start,.bool v.take,.bool v.right,.int .u64 v.value,.int .i64 v.odd]
abbrev LM.obj (v : LM) (T : TypeId) : Obj:=.cells #[.int .i64 v.kind,.int .i64 v.who,.int .i64 v.n,.int .i64 v.start,.bool v.take,.bool v.right,.int .u64 v.value,.int .i64 v.odd] T
def LM.list (v : LM) : List Value:=[.int .i64 v.kind,.int .i64 v.who,.int .i64 v.n,.int .i64 v.start,.bool v.take,.bool v.right,.int .u64 v.value,.int .i64 v.odd]
def LM.k (v : LM) : Int:=IntKind.u64.wrap v.kind % 3
def LM.base (v : LM) : CM :=
 if v.k = 0 then (if v.take then ⟨0,v.who % 64,1,if v.right then 1 else 0,0,v.start % 256,0⟩ else ⟨0,v.who % 64,0,if v.right then 1 else 0,v.value,0,0⟩)
 else if v.k = 2 then ⟨2,0,0,0,0,0,1 + v.n % 32768⟩ else ⟨1,v.who % 64,0,0,0,0,0⟩
def LM.turn (v : LM) (m : CM) : CM :=
 if v.odd % 32 = 1 then { m with k:=v.kind } else if v.odd % 32 = 2 then { m with who:=v.who } else if v.odd % 32 = 3 then { m with n:=v.n } else if v.odd % 32 = 4 then { m with st:=v.start } else if v.odd % 32 = 5 then { m with v:=v.value }
 else if v.odd % 32 = 6 then { m with ck:=v.n } else if v.odd % 32 = 7 then { m with ce:=v.n } else m
def LM.make (v : LM) : CM:=v.turn v.base
theorem LM.k_cases (v : LM) : v.k = 0 ∨ v.k = 1 ∨ v.k = 2:=by unfold LM.k; omega
structure MkBx (w wx : World) (v : LM) : Prop where
 below : Below w.heap.size w wx
 arg : IsObj wx w.heap.size v.list
 res : IsObj wx (w.heap.size + 1) [.int .i64 0,.int .i64 0,.int .i64 0,.int .i64 0,.int .u64 0,.int .i64 0,.int .i64 0]
theorem MkBx.set {w wx : World} {v : LM} (h : MkBx w wx v) (j : Nat) (u : Value) : MkBx w (wx.setCell ⟨w.heap.size + 1 + 1,j,none⟩ u) v :=
 ⟨zAF h.below (by show w.heap.size ≤ w.heap.size + 1 + 1; omega) u,h.arg.other j u (by omega),h.res.other j u (by omega)⟩
structure MkAt (w wx : World) (v : LM) (m : CM) : Prop where
 bx : MkBx w wx v
 obj : IsObj wx (w.heap.size + 1 + 1) [.int .i64 m.k,.int .i64 m.who,.int .i64 m.ck,.int .i64 m.ce,.int .u64 m.v,.int .i64 m.st,.int .i64 m.n]
theorem zCq (v : LM) (w : World) : Calls Tryz.prog 10 #[v.val] w fun r w'=>r = .returned v.make.val ∧ Below w.heap.size w w':=by
 have hb : (v.k = 0 ∧ v.take = false ∧ v.base = ⟨0,v.who % 64,0,if v.right then 1 else 0,v.value,0,0⟩) ∨ (v.k = 0 ∧ v.take = true ∧ v.base = ⟨0,v.who % 64,1,if v.right then 1 else 0,0,v.start % 256,0⟩) ∨ (v.k = 1 ∧ v.base = ⟨1,v.who % 64,0,0,0,0,0⟩) ∨ (v.k = 2 ∧ v.base = ⟨2,0,0,0,0,0,1 + v.n % 32768⟩):=by
  rcases v.k_cases with h | h | h
  ·cases ht : v.take
   ·exact .inl ⟨h,rfl,by unfold LM.base; rw [if_pos h,ht]; rfl⟩
   ·exact .inr (.inl ⟨h,rfl,by unfold LM.base; rw [if_pos h,ht]; rfl⟩)
  ·exact .inr (.inr (.inl ⟨h,by unfold LM.base; rw [if_neg (by omega),if_neg (by omega)]⟩))
  ·exact .inr (.inr (.inr ⟨h,by unfold LM.base; rw [if_neg (by omega),if_pos h]⟩))
 have ho : (v.odd % 32 = 1 ∧ v.make = { v.base with k:=v.kind }) ∨ (v.odd % 32 = 2 ∧ v.make = { v.base with who:=v.who }) ∨ (v.odd % 32 = 3 ∧ v.make = { v.base with n:=v.n }) ∨ (v.odd % 32 = 4 ∧ v.make = { v.base with st:=v.start }) ∨ (v.odd % 32 = 5 ∧ v.make = { v.base with v:=v.value }) ∨ (v.odd % 32 = 6 ∧ v.make = { v.base with ck:=v.n }) ∨ (v.odd % 32 = 7 ∧ v.make = { v.base with ce:=v.n }) ∨ ((v.odd % 32 = 0 ∨ 8 ≤ v.odd % 32) ∧ v.make = v.base):=by
  unfold LM.make LM.turn
  by_cases h1 : v.odd % 32 = 1
  ·exact .inl ⟨h1,by rw [if_pos h1]⟩
  rw [if_neg h1]
  by_cases h2 : v.odd % 32 = 2
  ·exact .inr (.inl ⟨h2,by rw [if_pos h2]⟩)
  rw [if_neg h2]
  by_cases h3 : v.odd % 32 = 3
  ·exact .inr (.inr (.inl ⟨h3,by rw [if_pos h3]⟩))
  rw [if_neg h3]
  by_cases h4 : v.odd % 32 = 4
  ·exact .inr (.inr (.inr (.inl ⟨h4,by rw [if_pos h4]⟩)))
  rw [if_neg h4]
  by_cases h5 : v.odd % 32 = 5
  ·exact .inr (.inr (.inr (.inr (.inl ⟨h5,by rw [if_pos h5]⟩))))
  rw [if_neg h5]
  by_cases h6 : v.odd % 32 = 6
  ·exact .inr (.inr (.inr (.inr (.inr (.inl ⟨h6,by rw [if_pos h6]⟩)))))
  rw [if_neg h6]
  by_cases h7 : v.odd % 32 = 7
  ·exact .inr (.inr (.inr (.inr (.inr (.inr (.inl ⟨h7,by rw [if_pos h7]⟩))))))
  rw [if_neg h7]
  exact .inr (.inr (.inr (.inr (.inr (.inr (.inr ⟨by omega,rfl⟩))))))
 unfold LM.val
 generalize v.make = M at ho ⊢
 generalize v.base = b0 at hb ho
 unfold LM.k at hb
 obtain ⟨kind,who,n,start,take,right,value,odd⟩:=v
 simp only at hb ho ⊢
 obtain ⟨q,hq⟩ : ∃ q,IntKind.u64.wrap kind % 3 = q:=⟨_,rfl⟩
 have hq1 : (IntKind.u64.wrap kind).tmod 3 = q:=by rw [Int.tmod_eq_emod_of_nonneg (by rw [IntKind.wrap_u64]; omega)]; exact hq
 have hq3 : IntKind.i64.wrap q = q:=by rw [← hq]; exact IntWalk.i64_in _ (by omega)
 rw [hq] at hb
 clear hq
 have a63 : bits .and .i64 who 63 = who % 64:=and_63 who
 have a255 : bits .and .i64 start 255 = start % 256:=zHJ start
 have a7fff : bits .and .i64 n 32767 = n % 32768:=zGf n
 have a31 : bits .and .i64 odd 31 = odd % 32:=and_31 odd
 have HBs:=zHe hb
 have HOd:=zHe ho
 clear hb ho
 have HB3:=zHe (zAA (zAA (zAA (Below.refl w.heap.size w) ((⟨kind,who,n,start,take,right,value,odd⟩ : LM).obj 32)) (.cells #[.int .i64 0,.int .i64 0,.int .i64 0,.int .i64 0,.int .u64 0,.int .i64 0,.int .i64 0] 39)) (.cells #[.int .i64 q,.int .i64 (who % 64),.int .i64 0,.int .i64 0,.int .u64 0,.int .i64 0,.int .i64 0] 39))
 go_enter Tryz.func10,Tryz.ntmps10
 go_upto_block 0 with fail
 have h3:=IsObj.made ((w.alloc ((⟨kind,who,n,start,take,right,value,odd⟩ : LM).obj 32)).alloc (.cells #[.int .i64 0,.int .i64 0,.int .i64 0,.int .i64 0,.int .u64 0,.int .i64 0,.int .i64 0] 39)) [.int .i64 q,.int .i64 (who % 64),.int .i64 0,.int .i64 0,.int .u64 0,.int .i64 0,.int .i64 0] 39
 have h2:=(IsObj.made (w.alloc ((⟨kind,who,n,start,take,right,value,odd⟩ : LM).obj 32)) [.int .i64 0,.int .i64 0,.int .i64 0,.int .i64 0,.int .u64 0,.int .i64 0,.int .i64 0] 39).later (zAA (Below.refl _ _) (.cells #[.int .i64 q,.int .i64 (who % 64),.int .i64 0,.int .i64 0,.int .u64 0,.int .i64 0,.int .i64 0] 39))
 have h1:=((IsObj.made w [.int .i64 kind,.int .i64 who,.int .i64 n,.int .i64 start,.bool take,.bool right,.int .u64 value,.int .i64 odd] 32).later (zAA (Below.refl _ _) (.cells #[.int .i64 0,.int .i64 0,.int .i64 0,.int .i64 0,.int .u64 0,.int .i64 0,.int .i64 0] 39))).later (zAA (Below.refl _ _) (.cells #[.int .i64 q,.int .i64 (who % 64),.int .i64 0,.int .i64 0,.int .u64 0,.int .i64 0,.int .i64 0] 39))
 simp only [World.size_alloc] at h3 h2
 have H1:=zHe h1
 have H2:=zHe h2
 have H3:=zHe h3
 clear h1 h2 h3
 generalize (((w.alloc (.cells #[.int .i64 kind,.int .i64 who,.int .i64 n,.int .i64 start,.bool take,.bool right,.int .u64 value,.int .i64 odd] 32)).alloc (.cells #[.int .i64 0,.int .i64 0,.int .i64 0,.int .i64 0,.int .u64 0,.int .i64 0,.int .i64 0] 39)).alloc (.cells #[.int .i64 q,.int .i64 (who % 64),.int .i64 0,.int .i64 0,.int .u64 0,.int .i64 0,.int .i64 0] 39)) = w3 at H1 H2 H3 HB3 ⊢
 go_cut [] (fun wx=>Hid (MkAt w wx ⟨kind,who,n,start,take,right,value,odd⟩ b0))
 case first =>
  have q0:=H3.out.at' 0 _ rfl
  have q1:=H3.out.at' 1 _ rfl
  have q2:=H3.out.at' 2 _ rfl
  have q3:=H3.out.at' 3 _ rfl
  have q4:=H3.out.at' 4 _ rfl
  have q5:=H3.out.at' 5 _ rfl
  have q6:=H3.out.at' 6 _ rfl
  have f0:=H3.out.fz 0
  have f1:=H3.out.fz 1
  have f2:=H3.out.fz 2
  have f3:=H3.out.fz 3
  have f4:=H3.out.fz 4
  have f5:=H3.out.fz 5
  have f6:=H3.out.fz 6
  have x2:=H1.out.at' 2 _ rfl
  have x3:=H1.out.at' 3 _ rfl
  have x4:=H1.out.at' 4 _ rfl
  have x5:=H1.out.at' 5 _ rfl
  have x6:=H1.out.at' 6 _ rfl
  have hl3:=H3.out.lt
  have hd : ∀ (j : Nat) (u : Value) (wx : World),MkBx w wx ⟨kind,who,n,start,take,right,value,odd⟩ → MkBx w (wx.setCell ⟨w.heap.size + 1 + 1,j,none⟩ u) ⟨kind,who,n,start,take,right,value,odd⟩:=fun j u wx h=>h.set j u
  have HD:=zHe hd
  have HX:=zHe (show MkBx w w3 ⟨kind,who,n,start,take,right,value,odd⟩ from ⟨HB3.out,H1.out,H2.out⟩)
  clear hd
  rcases HBs.out with ⟨rfl,rfl,rfl⟩ | ⟨rfl,rfl,rfl⟩ | ⟨rfl,rfl⟩ | ⟨rfl,rfl⟩
  ·cases right
   ·go_wp2_with fail
    go_meet
    exact zHe ⟨HD.out _ _ _ HX.out,H3.out.set 4 _⟩
   ·go_wp2_with fail
    go_meet
    exact zHe ⟨HD.out _ _ _ (HD.out _ _ _ HX.out),(H3.out.set 4 _).set 3 _⟩
  ·cases right
   ·go_wp2_with fail
    go_meet
    exact zHe ⟨(HD.out _ _ _ (HD.out _ _ _ (HD.out _ _ _ (HD.out _ _ _ (HD.out _ _ _ HX.out))))),(((((H3.out.set 4 _).set 2 _).set 3 _).set 4 _).set 5 _)⟩
   ·go_wp2_with fail
    go_meet
    exact zHe ⟨HD.out _ _ _ (HD.out _ _ _ (HD.out _ _ _ (HD.out _ _ _ (HD.out _ _ _ (HD.out _ _ _ HX.out))))),(((((H3.out.set 4 _).set 2 _).set 3 _).set 4 _).set 5 _).set 3 _⟩
  ·go_wp2_with fail
   go_meet
   exact zHe ⟨HX.out,H3.out⟩
  ·have hwn : IntKind.i64.wrap (1 + n % 32768) = 1 + n % 32768:=IntWalk.i64_in _ (by omega)
   go_wp2_with fail
   go_meet
   exact zHe ⟨HD.out _ _ _ (HD.out _ _ _ HX.out),(H3.out.set 1 _).set 6 _⟩
 case rest =>
  clear H1 H2 H3 HB3 HBs
  have HM:=hcut
  clear hcut
  have q0:=HM.out.obj.at' 0 _ rfl
  have q1:=HM.out.obj.at' 1 _ rfl
  have q2:=HM.out.obj.at' 2 _ rfl
  have q3:=HM.out.obj.at' 3 _ rfl
  have q4:=HM.out.obj.at' 4 _ rfl
  have q5:=HM.out.obj.at' 5 _ rfl
  have q6:=HM.out.obj.at' 6 _ rfl
  have f0:=HM.out.obj.fz 0
  have f1:=HM.out.obj.fz 1
  have f2:=HM.out.obj.fz 2
  have f3:=HM.out.obj.fz 3
  have f4:=HM.out.obj.fz 4
  have f5:=HM.out.obj.fz 5
  have f6:=HM.out.obj.fz 6
  have x0:=HM.out.bx.arg.at' 0 _ rfl
  have x1:=HM.out.bx.arg.at' 1 _ rfl
  have x2:=HM.out.bx.arg.at' 2 _ rfl
  have x3:=HM.out.bx.arg.at' 3 _ rfl
  have x6:=HM.out.bx.arg.at' 6 _ rfl
  have x7:=HM.out.bx.arg.at' 7 _ rfl
  have r0:=HM.out.bx.res.at' 0 _ rfl
  have r1:=HM.out.bx.res.at' 1 _ rfl
  have r2:=HM.out.bx.res.at' 2 _ rfl
  have r3:=HM.out.bx.res.at' 3 _ rfl
  have r4:=HM.out.bx.res.at' 4 _ rfl
  have r5:=HM.out.bx.res.at' 5 _ rfl
  have r6:=HM.out.bx.res.at' 6 _ rfl
  have g0:=HM.out.bx.res.fz 0
  have g1:=HM.out.bx.res.fz 1
  have g2:=HM.out.bx.res.fz 2
  have g3:=HM.out.bx.res.fz 3
  have g4:=HM.out.bx.res.fz 4
  have g5:=HM.out.bx.res.fz 5
  have g6:=HM.out.bx.res.fz 6
  rcases HOd.out with ⟨ho,rfl⟩ | ⟨ho,rfl⟩ | ⟨ho,rfl⟩ | ⟨ho,rfl⟩ | ⟨ho,rfl⟩ | ⟨ho,rfl⟩ | ⟨ho,rfl⟩ | ⟨ho,rfl⟩
  ·rw [ho] at a31
   go_wp2_with fail
   have hM2 : MkAt w (wc.setCell ⟨w.heap.size + 1 + 1,0,none⟩ (i64 kind)) ⟨kind,who,n,start,take,right,value,odd⟩ { b0 with k:=kind }:=⟨HM.out.bx.set 0 _,HM.out.obj.set 0 (i64 kind)⟩
   generalize wc.setCell ⟨w.heap.size + 1 + 1,0,none⟩ (i64 kind) = w5 at hM2 ⊢
   have hb9:=(zAF (p:=⟨w.heap.size + 1,6,none⟩) (zAF (p:=⟨w.heap.size + 1,5,none⟩) (zAF (p:=⟨w.heap.size + 1,4,none⟩) (zAF (p:=⟨w.heap.size + 1,3,none⟩) (zAF (p:=⟨w.heap.size + 1,2,none⟩) (zAF (p:=⟨w.heap.size + 1,1,none⟩) (zAF (p:=⟨w.heap.size + 1,0,none⟩) hM2.bx.below (Nat.le_succ _) (i64 kind)) (Nat.le_succ _) (i64 b0.who)) (Nat.le_succ _) (i64 b0.ck)) (Nat.le_succ _) (i64 b0.ce)) (Nat.le_succ _) (u64 b0.v)) (Nat.le_succ _) (i64 b0.st)) (Nat.le_succ _) (i64 b0.n))
   have ho9:=(((((((hM2.bx.res.set 0 (i64 kind)).set 1 (i64 b0.who)).set 2 (i64 b0.ck)).set 3 (i64 b0.ce)).set 4 (u64 b0.v)).set 5 (i64 b0.st)).set 6 (i64 b0.n))
   generalize (((((((w5.setCell ⟨w.heap.size + 1,0,none⟩ (i64 kind)).setCell ⟨w.heap.size + 1,1,none⟩ (i64 b0.who)).setCell ⟨w.heap.size + 1,2,none⟩ (i64 b0.ck)).setCell ⟨w.heap.size + 1,3,none⟩ (i64 b0.ce)).setCell ⟨w.heap.size + 1,4,none⟩ (u64 b0.v)).setCell ⟨w.heap.size + 1,5,none⟩ (i64 b0.st)).setCell ⟨w.heap.size + 1,6,none⟩ (i64 b0.n)) = w9 at hb9 ho9 ⊢
   have z0:=ho9.at' 0 _ rfl
   have z1:=ho9.at' 1 _ rfl
   have z2:=ho9.at' 2 _ rfl
   have z3:=ho9.at' 3 _ rfl
   have z4:=ho9.at' 4 _ rfl
   have z5:=ho9.at' 5 _ rfl
   have z6:=ho9.at' 6 _ rfl
   exact bodyPost_ret (v:=(⟨kind,b0.who,b0.ck,b0.ce,b0.v,b0.st,b0.n⟩ : CM).val) (by simp [results,Tryz.results10,go_sem,z0,z1,z2,z3,z4,z5,z6]) rfl ⟨rfl,hb9⟩
  ·rw [ho] at a31
   go_wp2_with fail
   have hM2 : MkAt w (wc.setCell ⟨w.heap.size + 1 + 1,1,none⟩ (i64 who)) ⟨kind,who,n,start,take,right,value,odd⟩ { b0 with who:=who }:=⟨HM.out.bx.set 1 _,HM.out.obj.set 1 (i64 who)⟩
   generalize wc.setCell ⟨w.heap.size + 1 + 1,1,none⟩ (i64 who) = w5 at hM2 ⊢
   have hb9:=(zAF (p:=⟨w.heap.size + 1,6,none⟩) (zAF (p:=⟨w.heap.size + 1,5,none⟩) (zAF (p:=⟨w.heap.size + 1,4,none⟩) (zAF (p:=⟨w.heap.size + 1,3,none⟩) (zAF (p:=⟨w.heap.size + 1,2,none⟩) (zAF (p:=⟨w.heap.size + 1,1,none⟩) (zAF (p:=⟨w.heap.size + 1,0,none⟩) hM2.bx.below (Nat.le_succ _) (i64 b0.k)) (Nat.le_succ _) (i64 who)) (Nat.le_succ _) (i64 b0.ck)) (Nat.le_succ _) (i64 b0.ce)) (Nat.le_succ _) (u64 b0.v)) (Nat.le_succ _) (i64 b0.st)) (Nat.le_succ _) (i64 b0.n))
   have ho9:=(((((((hM2.bx.res.set 0 (i64 b0.k)).set 1 (i64 who)).set 2 (i64 b0.ck)).set 3 (i64 b0.ce)).set 4 (u64 b0.v)).set 5 (i64 b0.st)).set 6 (i64 b0.n))
   generalize (((((((w5.setCell ⟨w.heap.size + 1,0,none⟩ (i64 b0.k)).setCell ⟨w.heap.size + 1,1,none⟩ (i64 who)).setCell ⟨w.heap.size + 1,2,none⟩ (i64 b0.ck)).setCell ⟨w.heap.size + 1,3,none⟩ (i64 b0.ce)).setCell ⟨w.heap.size + 1,4,none⟩ (u64 b0.v)).setCell ⟨w.heap.size + 1,5,none⟩ (i64 b0.st)).setCell ⟨w.heap.size + 1,6,none⟩ (i64 b0.n)) = w9 at hb9 ho9 ⊢
   have z0:=ho9.at' 0 _ rfl
   have z1:=ho9.at' 1 _ rfl
   have z2:=ho9.at' 2 _ rfl
   have z3:=ho9.at' 3 _ rfl
   have z4:=ho9.at' 4 _ rfl
   have z5:=ho9.at' 5 _ rfl
   have z6:=ho9.at' 6 _ rfl
   exact bodyPost_ret (v:=(⟨b0.k,who,b0.ck,b0.ce,b0.v,b0.st,b0.n⟩ : CM).val) (by simp [results,Tryz.results10,go_sem,z0,z1,z2,z3,z4,z5,z6]) rfl ⟨rfl,hb9⟩
  ·rw [ho] at a31
   go_wp2_with fail
   have hM2 : MkAt w (wc.setCell ⟨w.heap.size + 1 + 1,6,none⟩ (i64 n)) ⟨kind,who,n,start,take,right,value,odd⟩ { b0 with n:=n }:=⟨HM.out.bx.set 6 _,HM.out.obj.set 6 (i64 n)⟩
   generalize wc.setCell ⟨w.heap.size + 1 + 1,6,none⟩ (i64 n) = w5 at hM2 ⊢
   have hb9:=(zAF (p:=⟨w.heap.size + 1,6,none⟩) (zAF (p:=⟨w.heap.size + 1,5,none⟩) (zAF (p:=⟨w.heap.size + 1,4,none⟩) (zAF (p:=⟨w.heap.size + 1,3,none⟩) (zAF (p:=⟨w.heap.size + 1,2,none⟩) (zAF (p:=⟨w.heap.size + 1,1,none⟩) (zAF (p:=⟨w.heap.size + 1,0,none⟩) hM2.bx.below (Nat.le_succ _) (i64 b0.k)) (Nat.le_succ _) (i64 b0.who)) (Nat.le_succ _) (i64 b0.ck)) (Nat.le_succ _) (i64 b0.ce)) (Nat.le_succ _) (u64 b0.v)) (Nat.le_succ _) (i64 b0.st)) (Nat.le_succ _) (i64 n))
   have ho9:=(((((((hM2.bx.res.set 0 (i64 b0.k)).set 1 (i64 b0.who)).set 2 (i64 b0.ck)).set 3 (i64 b0.ce)).set 4 (u64 b0.v)).set 5 (i64 b0.st)).set 6 (i64 n))
   generalize (((((((w5.setCell ⟨w.heap.size + 1,0,none⟩ (i64 b0.k)).setCell ⟨w.heap.size + 1,1,none⟩ (i64 b0.who)).setCell ⟨w.heap.size + 1,2,none⟩ (i64 b0.ck)).setCell ⟨w.heap.size + 1,3,none⟩ (i64 b0.ce)).setCell ⟨w.heap.size + 1,4,none⟩ (u64 b0.v)).setCell ⟨w.heap.size + 1,5,none⟩ (i64 b0.st)).setCell ⟨w.heap.size + 1,6,none⟩ (i64 n)) = w9 at hb9 ho9 ⊢
   have z0:=ho9.at' 0 _ rfl
   have z1:=ho9.at' 1 _ rfl
   have z2:=ho9.at' 2 _ rfl
   have z3:=ho9.at' 3 _ rfl
   have z4:=ho9.at' 4 _ rfl
   have z5:=ho9.at' 5 _ rfl
   have z6:=ho9.at' 6 _ rfl
   exact bodyPost_ret (v:=(⟨b0.k,b0.who,b0.ck,b0.ce,b0.v,b0.st,n⟩ : CM).val) (by simp [results,Tryz.results10,go_sem,z0,z1,z2,z3,z4,z5,z6]) rfl ⟨rfl,hb9⟩
  ·rw [ho] at a31
   go_wp2_with fail
   have hM2 : MkAt w (wc.setCell ⟨w.heap.size + 1 + 1,5,none⟩ (i64 start)) ⟨kind,who,n,start,take,right,value,odd⟩ { b0 with st:=start }:=⟨HM.out.bx.set 5 _,HM.out.obj.set 5 (i64 start)⟩
   generalize wc.setCell ⟨w.heap.size + 1 + 1,5,none⟩ (i64 start) = w5 at hM2 ⊢
   have hb9:=(zAF (p:=⟨w.heap.size + 1,6,none⟩) (zAF (p:=⟨w.heap.size + 1,5,none⟩) (zAF (p:=⟨w.heap.size + 1,4,none⟩) (zAF (p:=⟨w.heap.size + 1,3,none⟩) (zAF (p:=⟨w.heap.size + 1,2,none⟩) (zAF (p:=⟨w.heap.size + 1,1,none⟩) (zAF (p:=⟨w.heap.size + 1,0,none⟩) hM2.bx.below (Nat.le_succ _) (i64 b0.k)) (Nat.le_succ _) (i64 b0.who)) (Nat.le_succ _) (i64 b0.ck)) (Nat.le_succ _) (i64 b0.ce)) (Nat.le_succ _) (u64 b0.v)) (Nat.le_succ _) (i64 start)) (Nat.le_succ _) (i64 b0.n))
   have ho9:=(((((((hM2.bx.res.set 0 (i64 b0.k)).set 1 (i64 b0.who)).set 2 (i64 b0.ck)).set 3 (i64 b0.ce)).set 4 (u64 b0.v)).set 5 (i64 start)).set 6 (i64 b0.n))
   generalize (((((((w5.setCell ⟨w.heap.size + 1,0,none⟩ (i64 b0.k)).setCell ⟨w.heap.size + 1,1,none⟩ (i64 b0.who)).setCell ⟨w.heap.size + 1,2,none⟩ (i64 b0.ck)).setCell ⟨w.heap.size + 1,3,none⟩ (i64 b0.ce)).setCell ⟨w.heap.size + 1,4,none⟩ (u64 b0.v)).setCell ⟨w.heap.size + 1,5,none⟩ (i64 start)).setCell ⟨w.heap.size + 1,6,none⟩ (i64 b0.n)) = w9 at hb9 ho9 ⊢
   have z0:=ho9.at' 0 _ rfl
   have z1:=ho9.at' 1 _ rfl
   have z2:=ho9.at' 2 _ rfl
   have z3:=ho9.at' 3 _ rfl
   have z4:=ho9.at' 4 _ rfl
   have z5:=ho9.at' 5 _ rfl
   have z6:=ho9.at' 6 _ rfl
   exact bodyPost_ret (v:=(⟨b0.k,b0.who,b0.ck,b0.ce,b0.v,start,b0.n⟩ : CM).val) (by simp [results,Tryz.results10,go_sem,z0,z1,z2,z3,z4,z5,z6]) rfl ⟨rfl,hb9⟩
  ·rw [ho] at a31
   go_wp2_with fail
   have hM2 : MkAt w (wc.setCell ⟨w.heap.size + 1 + 1,4,none⟩ (u64 value)) ⟨kind,who,n,start,take,right,value,odd⟩ { b0 with v:=value }:=⟨HM.out.bx.set 4 _,HM.out.obj.set 4 (u64 value)⟩
   generalize wc.setCell ⟨w.heap.size + 1 + 1,4,none⟩ (u64 value) = w5 at hM2 ⊢
   have hb9:=(zAF (p:=⟨w.heap.size + 1,6,none⟩) (zAF (p:=⟨w.heap.size + 1,5,none⟩) (zAF (p:=⟨w.heap.size + 1,4,none⟩) (zAF (p:=⟨w.heap.size + 1,3,none⟩) (zAF (p:=⟨w.heap.size + 1,2,none⟩) (zAF (p:=⟨w.heap.size + 1,1,none⟩) (zAF (p:=⟨w.heap.size + 1,0,none⟩) hM2.bx.below (Nat.le_succ _) (i64 b0.k)) (Nat.le_succ _) (i64 b0.who)) (Nat.le_succ _) (i64 b0.ck)) (Nat.le_succ _) (i64 b0.ce)) (Nat.le_succ _) (u64 value)) (Nat.le_succ _) (i64 b0.st)) (Nat.le_succ _) (i64 b0.n))
   have ho9:=(((((((hM2.bx.res.set 0 (i64 b0.k)).set 1 (i64 b0.who)).set 2 (i64 b0.ck)).set 3 (i64 b0.ce)).set 4 (u64 value)).set 5 (i64 b0.st)).set 6 (i64 b0.n))
   generalize (((((((w5.setCell ⟨w.heap.size + 1,0,none⟩ (i64 b0.k)).setCell ⟨w.heap.size + 1,1,none⟩ (i64 b0.who)).setCell ⟨w.heap.size + 1,2,none⟩ (i64 b0.ck)).setCell ⟨w.heap.size + 1,3,none⟩ (i64 b0.ce)).setCell ⟨w.heap.size + 1,4,none⟩ (u64 value)).setCell ⟨w.heap.size + 1,5,none⟩ (i64 b0.st)).setCell ⟨w.heap.size + 1,6,none⟩ (i64 b0.n)) = w9 at hb9 ho9 ⊢
   have z0:=ho9.at' 0 _ rfl
   have z1:=ho9.at' 1 _ rfl
   have z2:=ho9.at' 2 _ rfl
   have z3:=ho9.at' 3 _ rfl
   have z4:=ho9.at' 4 _ rfl
   have z5:=ho9.at' 5 _ rfl
   have z6:=ho9.at' 6 _ rfl
   exact bodyPost_ret (v:=(⟨b0.k,b0.who,b0.ck,b0.ce,value,b0.st,b0.n⟩ : CM).val) (by simp [results,Tryz.results10,go_sem,z0,z1,z2,z3,z4,z5,z6]) rfl ⟨rfl,hb9⟩
  ·rw [ho] at a31
   go_wp2_with fail
   have hM2 : MkAt w (wc.setCell ⟨w.heap.size + 1 + 1,2,none⟩ (i64 n)) ⟨kind,who,n,start,take,right,value,odd⟩ { b0 with ck:=n }:=⟨HM.out.bx.set 2 _,HM.out.obj.set 2 (i64 n)⟩
   generalize wc.setCell ⟨w.heap.size + 1 + 1,2,none⟩ (i64 n) = w5 at hM2 ⊢
   have hb9:=(zAF (p:=⟨w.heap.size + 1,6,none⟩) (zAF (p:=⟨w.heap.size + 1,5,none⟩) (zAF (p:=⟨w.heap.size + 1,4,none⟩) (zAF (p:=⟨w.heap.size + 1,3,none⟩) (zAF (p:=⟨w.heap.size + 1,2,none⟩) (zAF (p:=⟨w.heap.size + 1,1,none⟩) (zAF (p:=⟨w.heap.size + 1,0,none⟩) hM2.bx.below (Nat.le_succ _) (i64 b0.k)) (Nat.le_succ _) (i64 b0.who)) (Nat.le_succ _) (i64 n)) (Nat.le_succ _) (i64 b0.ce)) (Nat.le_succ _) (u64 b0.v)) (Nat.le_succ _) (i64 b0.st)) (Nat.le_succ _) (i64 b0.n))
   have ho9:=(((((((hM2.bx.res.set 0 (i64 b0.k)).set 1 (i64 b0.who)).set 2 (i64 n)).set 3 (i64 b0.ce)).set 4 (u64 b0.v)).set 5 (i64 b0.st)).set 6 (i64 b0.n))
   generalize (((((((w5.setCell ⟨w.heap.size + 1,0,none⟩ (i64 b0.k)).setCell ⟨w.heap.size + 1,1,none⟩ (i64 b0.who)).setCell ⟨w.heap.size + 1,2,none⟩ (i64 n)).setCell ⟨w.heap.size + 1,3,none⟩ (i64 b0.ce)).setCell ⟨w.heap.size + 1,4,none⟩ (u64 b0.v)).setCell ⟨w.heap.size + 1,5,none⟩ (i64 b0.st)).setCell ⟨w.heap.size + 1,6,none⟩ (i64 b0.n)) = w9 at hb9 ho9 ⊢
   have z0:=ho9.at' 0 _ rfl
   have z1:=ho9.at' 1 _ rfl
   have z2:=ho9.at' 2 _ rfl
   have z3:=ho9.at' 3 _ rfl
   have z4:=ho9.at' 4 _ rfl
   have z5:=ho9.at' 5 _ rfl
   have z6:=ho9.at' 6 _ rfl
   exact bodyPost_ret (v:=(⟨b0.k,b0.who,n,b0.ce,b0.v,b0.st,b0.n⟩ : CM).val) (by simp [results,Tryz.results10,go_sem,z0,z1,z2,z3,z4,z5,z6]) rfl ⟨rfl,hb9⟩
  ·rw [ho] at a31
   go_wp2_with fail
   have hM2 : MkAt w (wc.setCell ⟨w.heap.size + 1 + 1,3,none⟩ (i64 n)) ⟨kind,who,n,start,take,right,value,odd⟩ { b0 with ce:=n }:=⟨HM.out.bx.set 3 _,HM.out.obj.set 3 (i64 n)⟩
   generalize wc.setCell ⟨w.heap.size + 1 + 1,3,none⟩ (i64 n) = w5 at hM2 ⊢
   have hb9:=(zAF (p:=⟨w.heap.size + 1,6,none⟩) (zAF (p:=⟨w.heap.size + 1,5,none⟩) (zAF (p:=⟨w.heap.size + 1,4,none⟩) (zAF (p:=⟨w.heap.size + 1,3,none⟩) (zAF (p:=⟨w.heap.size + 1,2,none⟩) (zAF (p:=⟨w.heap.size + 1,1,none⟩) (zAF (p:=⟨w.heap.size + 1,0,none⟩) hM2.bx.below (Nat.le_succ _) (i64 b0.k)) (Nat.le_succ _) (i64 b0.who)) (Nat.le_succ _) (i64 b0.ck)) (Nat.le_succ _) (i64 n)) (Nat.le_succ _) (u64 b0.v)) (Nat.le_succ _) (i64 b0.st)) (Nat.le_succ _) (i64 b0.n))
   have ho9:=(((((((hM2.bx.res.set 0 (i64 b0.k)).set 1 (i64 b0.who)).set 2 (i64 b0.ck)).set 3 (i64 n)).set 4 (u64 b0.v)).set 5 (i64 b0.st)).set 6 (i64 b0.n))
   generalize (((((((w5.setCell ⟨w.heap.size + 1,0,none⟩ (i64 b0.k)).setCell ⟨w.heap.size + 1,1,none⟩ (i64 b0.who)).setCell ⟨w.heap.size + 1,2,none⟩ (i64 b0.ck)).setCell ⟨w.heap.size + 1,3,none⟩ (i64 n)).setCell ⟨w.heap.size + 1,4,none⟩ (u64 b0.v)).setCell ⟨w.heap.size + 1,5,none⟩ (i64 b0.st)).setCell ⟨w.heap.size + 1,6,none⟩ (i64 b0.n)) = w9 at hb9 ho9 ⊢
   have z0:=ho9.at' 0 _ rfl
   have z1:=ho9.at' 1 _ rfl
   have z2:=ho9.at' 2 _ rfl
   have z3:=ho9.at' 3 _ rfl
   have z4:=ho9.at' 4 _ rfl
   have z5:=ho9.at' 5 _ rfl
   have z6:=ho9.at' 6 _ rfl
   exact bodyPost_ret (v:=(⟨b0.k,b0.who,b0.ck,n,b0.v,b0.st,b0.n⟩ : CM).val) (by simp [results,Tryz.results10,go_sem,z0,z1,z2,z3,z4,z5,z6]) rfl ⟨rfl,hb9⟩
  ·obtain ⟨q5,hq5⟩ : ∃ q5,odd % 32 = q5:=⟨_,rfl⟩
   rw [hq5] at a31 ho
   have e1 : (q5 == 1) = false:=beq_false_of_ne (by omega)
   have e2 : (q5 == 2) = false:=beq_false_of_ne (by omega)
   have e3 : (q5 == 3) = false:=beq_false_of_ne (by omega)
   have e4 : (q5 == 4) = false:=beq_false_of_ne (by omega)
   have e5 : (q5 == 5) = false:=beq_false_of_ne (by omega)
   have e6 : (q5 == 6) = false:=beq_false_of_ne (by omega)
   have e7 : (q5 == 7) = false:=beq_false_of_ne (by omega)
   clear ho hq5
   go_wp2_with fail
   have hM2:=HM.out
   have hb9:=(zAF (p:=⟨w.heap.size + 1,6,none⟩) (zAF (p:=⟨w.heap.size + 1,5,none⟩) (zAF (p:=⟨w.heap.size + 1,4,none⟩) (zAF (p:=⟨w.heap.size + 1,3,none⟩) (zAF (p:=⟨w.heap.size + 1,2,none⟩) (zAF (p:=⟨w.heap.size + 1,1,none⟩) (zAF (p:=⟨w.heap.size + 1,0,none⟩) hM2.bx.below (Nat.le_succ _) (i64 M.k)) (Nat.le_succ _) (i64 M.who)) (Nat.le_succ _) (i64 M.ck)) (Nat.le_succ _) (i64 M.ce)) (Nat.le_succ _) (u64 M.v)) (Nat.le_succ _) (i64 M.st)) (Nat.le_succ _) (i64 M.n))
   have ho9:=(((((((hM2.bx.res.set 0 (i64 M.k)).set 1 (i64 M.who)).set 2 (i64 M.ck)).set 3 (i64 M.ce)).set 4 (u64 M.v)).set 5 (i64 M.st)).set 6 (i64 M.n))
   generalize (((((((wc.setCell ⟨w.heap.size + 1,0,none⟩ (i64 M.k)).setCell ⟨w.heap.size + 1,1,none⟩ (i64 M.who)).setCell ⟨w.heap.size + 1,2,none⟩ (i64 M.ck)).setCell ⟨w.heap.size + 1,3,none⟩ (i64 M.ce)).setCell ⟨w.heap.size + 1,4,none⟩ (u64 M.v)).setCell ⟨w.heap.size + 1,5,none⟩ (i64 M.st)).setCell ⟨w.heap.size + 1,6,none⟩ (i64 M.n)) = w9 at hb9 ho9 ⊢
   have z0:=ho9.at' 0 _ rfl
   have z1:=ho9.at' 1 _ rfl
   have z2:=ho9.at' 2 _ rfl
   have z3:=ho9.at' 3 _ rfl
   have z4:=ho9.at' 4 _ rfl
   have z5:=ho9.at' 5 _ rfl
   have z6:=ho9.at' 6 _ rfl
   exact bodyPost_ret (v:=M.val) (by simp [results,Tryz.results10,go_sem,z0,z1,z2,z3,z4,z5,z6]) rfl ⟨rfl,hb9⟩
end
section
open Go.RowKit
structure AtLM (w : World) (b o : Nat) (v : LM) : Prop where
 c0 : w.cell? ⟨b,o,none⟩ = some (i64 v.kind)
 c1 : w.cell? ⟨b,o + 1,none⟩ = some (i64 v.who)
 c2 : w.cell? ⟨b,o + 2,none⟩ = some (i64 v.n)
 c3 : w.cell? ⟨b,o + 3,none⟩ = some (i64 v.start)
 c4 : w.cell? ⟨b,o + 4,none⟩ = some (.bool v.take)
 c5 : w.cell? ⟨b,o + 5,none⟩ = some (.bool v.right)
 c6 : w.cell? ⟨b,o + 6,none⟩ = some (u64 v.value)
 c7 : w.cell? ⟨b,o + 7,none⟩ = some (i64 v.odd)
theorem AtLM.later {w w' : World} {b o : Nat} {v : LM} (h : AtLM w b o v) (e : Below w.heap.size w w') : AtLM w' b o v:=by
 have hb:=World.block_lt_of_cell? w _ h.c0
 exact ⟨(e.cell (p:=⟨b,o,none⟩) hb).trans h.c0,(e.cell (p:=⟨b,o + 1,none⟩) hb).trans h.c1,(e.cell (p:=⟨b,o + 2,none⟩) hb).trans h.c2,(e.cell (p:=⟨b,o + 3,none⟩) hb).trans h.c3,(e.cell (p:=⟨b,o + 4,none⟩) hb).trans h.c4,(e.cell (p:=⟨b,o + 5,none⟩) hb).trans h.c5,(e.cell (p:=⟨b,o + 6,none⟩) hb).trans h.c6,(e.cell (p:=⟨b,o + 7,none⟩) hb).trans h.c7⟩
def LM.Fit (v : LM) : Prop:=0 ≤ v.value ∧ v.value ≤ 18446744073709551615
theorem LM.base_fit {v : LM} (h : v.Fit) : v.base.Fit:=by
  unfold LM.base CM.Fit
  split
  ·split
   ·exact ⟨Int.le_refl _,by show (0 : Int) ≤ 18446744073709551615; decide⟩
   ·exact h
  ·split
   ·exact ⟨Int.le_refl _,by show (0 : Int) ≤ 18446744073709551615; decide⟩
   ·exact ⟨Int.le_refl _,by show (0 : Int) ≤ 18446744073709551615; decide⟩
theorem LM.make_fit {v : LM} (h : v.Fit) : v.make.Fit:=by
 have hb : v.base.Fit:=LM.base_fit h
 unfold LM.make LM.turn
 generalize v.base = b at hb
 repeat' split
 all_goals first | exact hb | exact h
structure RowL (w : World) (A : Option Addr) (cap : Nat) (V : List LM) : Prop where
 cap : V.length ≤ cap
 at' : ∀ (i : Nat) (v : LM),V[i]? = some v → ∃ b off,A = some ⟨b,off,none⟩ ∧ AtLM w b (off + i * 8) v
 fit : ∀ v ∈ V,v.Fit
theorem RowL.later {w w' : World} {A : Option Addr} {cap : Nat} {V : List LM} (h : RowL w A cap V) (e : Below w.heap.size w w') : RowL w' A cap V :=
 ⟨h.cap,fun i v hi=>by obtain ⟨b,off,h1,h2⟩:=h.at' i v hi; exact ⟨b,off,h1,h2.later e⟩,h.fit⟩
theorem zEJ {w : World} {A : Option Addr} {len cap : Nat} (h : IsRows w [.inl .i64,.inl .i64,.inl .i64,.inl .i64,.inr true,.inr true,.inl .u64,.inl .i64] A len cap) : ∃ V : List LM,V.length = len ∧ RowL w A cap V:=by
 obtain ⟨h1,h2,h3,h4,h5⟩:=h
 rcases Nat.eq_zero_or_pos len with h0 | hl
 ·subst h0
  exact ⟨[],rfl,Nat.zero_le _,fun i v hi=>by simp at hi,fun v hv=>by cases hv⟩
 obtain ⟨b,off,rfl⟩:=h4 hl
 have hx : ∀ i, ∃ x : LM,i < len → AtLM w b (off + i * 8) x ∧ x.Fit:=by
  intro i
  by_cases hi : i < len
  ·obtain ⟨cs,hf,hc⟩:=h5 b off rfl i hi
   obtain ⟨c0,l0,rfl,r0,f0⟩:=zAS hf
   obtain ⟨c1,l1,rfl,r1,f1⟩:=zAS f0
   obtain ⟨c2,l2,rfl,r2,f2⟩:=zAS f1
   obtain ⟨c3,l3,rfl,r3,f3⟩:=zAS f2
   obtain ⟨c4,l4,rfl,r4,f4⟩:=zAS f3
   obtain ⟨c5,l5,rfl,r5,f5⟩:=zAS f4
   obtain ⟨c6,l6,rfl,r6,f6⟩:=zAS f5
   obtain ⟨c7,l7,rfl,r7,f7⟩:=zAS f6
   obtain ⟨x0,rfl,g0⟩:=r0
   obtain ⟨x1,rfl,g1⟩:=r1
   obtain ⟨x2,rfl,g2⟩:=r2
   obtain ⟨x3,rfl,g3⟩:=r3
   obtain ⟨x4,rfl⟩:=r4
   obtain ⟨x5,rfl⟩:=r5
   obtain ⟨x6,rfl,g6⟩:=r6
   obtain ⟨x7,rfl,g7⟩:=r7
   exact ⟨⟨x0,x1,x2,x3,x4,x5,x6,x7⟩,fun _=>⟨⟨hc 0 _ rfl,hc 1 _ rfl,hc 2 _ rfl,hc 3 _ rfl,hc 4 _ rfl,hc 5 _ rfl,hc 6 _ rfl,hc 7 _ rfl⟩,(bounds_u64 g6).1,(bounds_u64 g6).2⟩⟩
  ·exact ⟨⟨0,0,0,0,false,false,0,0⟩,fun h=>absurd h hi⟩
 obtain ⟨X,hX⟩:=Classical.axiomOfChoice hx
 refine ⟨(List.range len).map X,by simp,by simpa using h1,fun i v hi=>?_,fun v hv=>?_⟩
 ·have hlt : i < len:=by
   have:=(List.getElem?_eq_some_iff.1 hi).1
   simpa using this
  rw [List.getElem?_map,List.getElem?_range hlt] at hi
  cases hi
  exact ⟨b,off,rfl,(hX i hlt).1⟩
 ·obtain ⟨i,hi,rfl⟩:=List.mem_map.1 hv
  exact (hX i (List.mem_range.1 hi)).2
def mkL (V : List LM) : List CM:=V.map LM.make
theorem zD8 {V : List LM} {i : Nat} {v : LM} (h : V[i]? = some v) : mkL (V.take (i + 1)) = mkL (V.take i) ++ [v.make]:=by
 unfold mkL
 rw [List.take_add_one,h,List.map_append]
 rfl
theorem zFa (V : List LM) : (mkL V).length = V.length:=List.length_map _
theorem zE2 {V : List LM} (h : ∀ v ∈ V,v.Fit) : ∀ m ∈ mkL V,m.Fit:=fun m hm=>by
 obtain ⟨v,hv,rfl⟩:=List.mem_map.1 hm
 exact LM.make_fit (h v hv)
end
section
open Go.RowKit
section
variable {T mode most c p : Int} {l : List CM} {v : LM}
end
end
section
open Go.RowKit
structure PBy (w : World) (l : List Int) (r : Ending) (w' : World) (T : Nat) (s so d : Int) (N : Nat) (ms : List CM) (W : World) (lx : List Thing) (yb ytb p c : Nat) (Yf : Nat → Yd) (An : List Int) (J : Nat → Nat) (g : Nat) : Prop where
 is : l = (T : Int) :: s :: so :: d :: encs ms
 good : ∀ m ∈ ms,m.Good
 few : ms.length ≤ 65536
 right : rightC T s so d = true
 lay : Lay T s N
 ret : r = .returned (.tuple #[pt yb,.slice (some ⟨g,0,none⟩) ms.length ms.length,i64 0])
 below : Below w.heap.size w W
 run : PRn W w' lx ⟨yb,ytb,p,c,T,s,so,d,T⟩ N ms Yf An J g
theorem zBE (A : Option Addr) (l : List Int) (cap : Nat) (w : World) (h : IsAt w A (l.map u8)) (hb : Byt l) (hc : l.length ≤ cap) (hf : l.length ≤ 1000000) :
  Calls Tryz.prog 17 #[.slice A l.length cap] w fun r w' =>
   (∃ w1 v n e,DecPost w1 w.heap.size l v n e ∧ e ≠ 0 ∧ r = .returned (.tuple #[.pointer none,.slice none 0 0,i64 e]) ∧ Below w.heap.size w w') ∨
   (∃ T s so d N ms W lx yb ytb p c Yf An J g,PBy w l r w' T s so d N ms W lx yb ytb p c Yf An J g):=by
 have HD:=zHe (zES A l cap w h hb hc hf)
 clear h hb hc hf
 go_enter Tryz.func17,Tryz.ntmps17
 go_wp2_with fail
 refine HD.out.mono ?_
 rintro r w2 ⟨v,n,e,rfl,hb2,hD⟩
 have HB2:=zHe hb2
 clear hb2 HD
 cases hD with
 | short h =>
  go_wp2_with fail
  exact bodyPost_ret (v:=.tuple #[.pointer none,.slice none 0 0,i64 3]) (by simp [results,Tryz.results17,go_sem]) rfl (.inl ⟨w2,_,_,3,.short h,by decide,rfl,zAA HB2.out _⟩)
 | conf t s so d r h hr =>
  have H:=zHe (And.intro h hr)
  clear h hr
  go_wp2_with fail
  exact bodyPost_ret (v:=.tuple #[.pointer none,.slice none 0 0,i64 1]) (by simp [results,Tryz.results17,go_sem]) rfl (.inl ⟨w2,_,_,1,.conf t s so d r H.out.1 H.out.2,by decide,rfl,zAA HB2.out _⟩)
 | bad t s so d r n e h hr hd he =>
  have H:=zHe (And.intro h (And.intro hr hd))
  have e0 : (e == 0) = false:=beq_false_of_ne he
  clear h hr hd
  go_wp2_with fail
  exact bodyPost_ret (v:=.tuple #[.pointer none,.slice none 0 0,i64 e]) (by simp [results,Tryz.results17,go_sem]) rfl (.inl ⟨w2,_,_,e,.bad t s so d r n e H.out.1 H.out.2.1 H.out.2.2 he,he,rfl,zAA HB2.out _⟩)
 | ok t s so d r ms A1 cp h hr hd ho =>
  obtain ⟨hg,hm,rfl⟩:=hd.yes rfl
  obtain ⟨T,N,rfl,hlay,o0,o1,d0,d1⟩:=zBh hr
  have H:=zHe (And.intro h (And.intro hr (And.intro hg (And.intro hm hlay))))
  have HI2:=zHe ((IsAt.own ho).later (zAA (Below.refl _ _) (.cells #[.int .i64 T,.int .i64 s,.int .i64 so,.int .i64 d,.slice A1 ms.length cp] 29)))
  have HB3:=zHe (zAA HB2.out (.cells #[.int .i64 T,.int .i64 s,.int .i64 so,.int .i64 d,.slice A1 ms.length cp] 29))
  have hm2 : ms.length < 900000:=by omega
  clear h hr hg hm hlay ho hd
  go_wp2_with fail
  refine (zBy T s so d N A1 cp ms _ HI2.out (fun m hm=>(H.out.2.2.1 m hm).2) hm2 H.out.2.2.2.2 o0 o1 d0 d1).mono ?_
  rintro r w4 ⟨W,lx,yb,ytb,p,c,Yf,An,J,g,rfl,hb,hP⟩
  have HZ:=zHe (zAB HB3.out hb)
  have HP:=zHe hP
  clear hb hP
  go_wp2_with fail
  exact bodyPost_ret (v:=.tuple #[pt yb,.slice (some ⟨g,0,none⟩) ms.length ms.length,i64 0]) (by simp [results,Tryz.results17,go_sem]) rfl (.inr ⟨T,s,so,d,N,ms,W,lx,yb,ytb,p,c,Yf,An,J,g,H.out.1,H.out.2.2.1,H.out.2.2.2.1,H.out.2.1,H.out.2.2.2.2,rfl,HZ.out,HP.out⟩)
end
section
open Go.RowKit
section
variable {Y : Nat → Yd} {N f b : Nat} {k : Sn}
end
end
section
open Go.RowKit
section
variable {Y : Nat → Yd} {N w i f b : Nat} {e v : Int} {d : Dd} {k : Ge}
end
section
variable {B : YB} {N m b w : Nat} {Y : Nat → Yd}
end
end
section
open Go.RowKit
section
end
section
variable {B : YB} {N n m b w : Nat} {Y : Nat → Yd}
end
end
section
open Go.RowKit
section
variable {B : YB} {N n m b w : Nat} {Y : Nat → Yd}
end
end
section
open Go.RowKit
section
variable {B : YB} {N n m b w : Nat} {Y : Nat → Yd}
end
end
section
open Go.RowKit
section
variable {B : YB} {N m : Nat} {Y : Nat → Yd}
end
end
section
open Go.RowKit
def dDo (row : List Int) (d : Dd) : Option (List Int) :=
 if d.kd = 0 then if d.ok = true then some (if d.e = 0 then d.x :: row else row ++ [d.x]) else some row
 else if d.ok = true then
  if row = [] then none
  else if d.e = 0 then if row.getD 0 0 = d.v then some (row.drop 1) else none
  else if row.getD (row.length - 1) 0 = d.v then some (row.take (row.length - 1)) else none
 else if row = [] then some row else none
def dAns (row : List Int) (d : Dd) : Dd :=
 if 0 ≤ d.till then d else { d with ok:=true,v:=if d.kd = 1 ∧ row ≠ [] then (if d.e = 1 then row.getD (row.length - 1) 0 else row.getD 0 0) else 0,lo:=0,hi:=0 }
def oRun (l : List Dd) : List Int → List Nat → Option (List Int)
 | row,[]=>some row
 | row,i :: s=>match l[i]? with
  | some d=>(dDo row (dAns row d)).bind (fun r=>oRun l r s)
  | none=>none
structure Holds (l : List Dd) (D : Nat → Prop) (row : List Int) (s : List Nat) : Prop where
 nodup : s.Nodup
 new : ∀ i ∈ s,¬ D i
 all : ∀ (i : Nat) (d : Dd),l[i]? = some d → 0 ≤ d.till → D i ∨ i ∈ s
 ahead : ∀ (p i k : Nat) (d o : Dd),s[p]? = some i → l[i]? = some d → l[k]? = some o → dBef o d → D k ∨ ∃ q,q < p ∧ s[q]? = some k
 run : ∃ r,oRun l row s = some r
end
section
open Go.RowKit
structure It where
 i : Nat
 k : Int
 p : Nat
 x : Int
 tk : Option (Nat × Nat × Nat)
section
variable {bef : Nat → Nat → Prop} {I J A B : List It} {l : List Dd} {a b x : It} {o : Nat}
end
end
section
open Go.RowKit
section
variable {r : Nat → Nat → Prop} {I J : List It} {l : List Dd} {a x : It} {o : Nat}
end
end
section
open Go.RowKit
section
variable {bef : Nat → Nat → Prop} {I J : List It} {l : List Dd}
end
end
section
open Go.RowKit
section
variable {B : YB} {N m : Nat} {Y : Nat → Yd}
end
end
section
open Go.RowKit
section
variable {B : YB} {N m : Nat} {Y : Nat → Yd}
end
end
section
open Go.RowKit
section
variable {B : YB} {N m : Nat} {Y : Nat → Yd}
end
end
section
open Go.RowKit
section
variable {B : YB} {N m : Nat} {Y : Nat → Yd}
end
end
section
open Go.RowKit
def hadBy (v : Int) (d : Dd) : Prop:=d.kd = 1 ∧ d.ok = true ∧ d.v = v
instance (v : Int) (d : Dd) : Decidable (hadBy v d):=inferInstanceAs (Decidable (_ ∧ _))
section
variable {B : YB} {N m : Nat} {Y : Nat → Yd}
end
end
section
open Go.RowKit
theorem YOk.fitT {pl : Nat → Pl} {t n : Nat} {Y : Yd} (h : YOk pl t n Y) (ht : t ≤ 1000) (hn : n ≤ 1000000) {d : Dd} (hd : d ∈ Y.ds) : d.Fit:=by
 obtain ⟨i,hi⟩:=List.mem_iff_getElem?.1 hd
 obtain ⟨⟨w,hw,hwt,_⟩,f0,f1,f2⟩:=h.deed i d hi
 have hm:=h.most
 refine ⟨WalkArith.wf_i64 (by omega),by omega,by omega, ?_, ?_⟩
 ·by_cases e : d.till = -1
  ·omega
  ·have:=(f2 e).1
   omega
 ·by_cases e : d.till = -1
  ·omega
  ·have:=(f2 e).2
   omega
theorem zHR {w : World} {base cap : Nat} {A : Option Addr} {L : List Dd} (h : w.ownsRow base 77 11 (.slice A L.length cap) L.length (flatD L)) (hF : ∀ d ∈ L,d.Fit) : ∃ tb,IsDds w A L.length cap tb 0 L:=by
 have hc:=zCA h
 rcases h.2 with ⟨hv,h0⟩ | ⟨g,cap',cur,hv,_,hh,_⟩
 ·have hl : L = []:=List.eq_nil_of_length_eq_zero h0
  subst hl
  exact ⟨0,rfl,hc,fun hp=>absurd hp (Nat.lt_irrefl _),fun i d hd=>by cases hd⟩
 ·cases hv
  refine ⟨g,rfl,hc,fun _=>⟨rfl,(Array.getElem?_eq_some_iff.1 hh).1⟩,fun i d hd=>⟨?_,hF d (List.mem_of_getElem? hd)⟩⟩
  rw [Nat.zero_add]
  exact AtDd.row h hd
theorem YdL.deedsT {W w : World} {l : List Thing} {B : YB} {N n : Nat} {Y : Yd} {J : Nat → Nat} (h : YdL W w l B N Y J n) (hn : n ≤ 1000000) (hT : B.T ≤ 1000) : Calls Tryz.prog 21 #[pt B.yb] w fun r w' => ∃ A cp tb,r = .returned (.slice A Y.ds.length cp) ∧ Below w.heap.size w w' ∧ IsDds w' A Y.ds.length cp tb 0 Y.ds:=by
 refine (h.deeds hn).mono ?_
 rintro r w' ⟨v,rfl,hrow,hb⟩
 obtain ⟨A,cp,rfl⟩:=zAK hrow
 obtain ⟨tb,hd⟩:=zHR hrow (fun d hd=>h.ok.fitT hT hn hd)
 exact ⟨A,cp,tb,rfl,hb,hd⟩
theorem IsDds.less {w w' : World} {a : Option Addr} {len cap tb off : Nat} {l : List Dd} (h : IsDds w a len cap tb off l) (e : Below w.heap.size w w') : IsDds w' a len cap tb off l:=h.later e (fun hp=>(h.2.2.1 hp).2)
theorem IsDds.one' {w : World} {a : Option Addr} {len cap tb off : Nat} {l : List Dd} (h : IsDds w a len cap tb off l) {i : Nat} {d : Dd} (hd : l[i]? = some d) : a = some ⟨tb,off,none⟩ ∧ tb < w.heap.size ∧ AtDd w tb (off + i * 11) d:=by
 have hi:=(List.getElem?_eq_some_iff.1 hd).1
 obtain ⟨h1,h2⟩:=h.2.2.1 (by rw [← h.1]; omega)
 exact ⟨h1,h2,(h.2.2.2 i d hd).1⟩
theorem IsDds.one0 {w : World} {a : Option Addr} {len cap tb : Nat} {l : List Dd} (h : IsDds w a len cap tb 0 l) {i : Nat} {d : Dd} (hd : l[i]? = some d) : a = some ⟨tb,0,none⟩ ∧ tb < w.heap.size ∧ AtDd w tb (i * 11) d:=by
 have:=h.one' hd
 rw [Nat.zero_add] at this
 exact this
end
section
open Go.RowKit
theorem zFO : ∀ (L : List Ev) (i : Nat) (e : Ev),L[i]? = some e → ∀ j u,e.cells[j]? = some u → (flatE L)[i * 6 + j]? = some u
 | [],_,_,h,_,_,_=>by simp at h
 | x :: L,0,e,h,j,u,hu=>by
  simp only [List.getElem?_cons_zero,Option.some.injEq] at h
  subst h
  have hj : j < 6:=(List.getElem?_eq_some_iff.1 hu).1
  rw [flatE,Nat.zero_mul,Nat.zero_add,List.getElem?_append_left (by show j < 6; exact hj)]
  exact hu
 | x :: L,i + 1,e,h,j,u,hu=>by
  rw [flatE,List.getElem?_append_right (by show 6 ≤ _; omega)]
  rw [show (i + 1) * 6 + j - x.cells.length = i * 6 + j by show (i + 1) * 6 + j - 6 = _; omega]
  exact zFO L i e (by simpa using h) j u hu
theorem zBF {W1 W2 w : World} {l1 l2 : List Thing} {B1 B2 : YB} {N1 N2 n1 n2 : Nat} {Y1 Y2 : Yd} {J1 J2 : Nat → Nat} (h1 : YdL W1 w l1 B1 N1 Y1 J1 n1) (h2 : YdL W2 w l2 B2 N2 Y2 J2 n2) (hn1 : n1 ≤ 1000) (hn2 : n2 ≤ 1000) (hT1 : B1.T ≤ 1000) (hT2 : B2.T ≤ 1000) (hd : Y2.ds = Y1.ds) (hL : Y2.L = Y1.L) (ht : Y2.now = Y1.now) :
  Calls Tryz.prog 15 #[pt B1.yb,pt B2.yb] w fun r w'=>r = .returned (.bool true) ∧ Below w.heap.size w w':=by
 have H1:=zHe h1
 have H2:=zHe h2
 have HT:=zHe ht
 have HD:=zHe hd
 have HL:=zHe hL
 have hdl : Y1.ds.length ≤ 1000:=by have:=h1.ok.nds; have:=h1.ok.most; omega
 have hll : Y1.L.length ≤ 100000000:=by have:=h1.ok.nL; have:=h1.ok.most; omega
 clear h1 h2 hd hL ht
 go_enter Tryz.func15,Tryz.ntmps15
 go_wp2_with fail
 refine (H1.out.deedsT (by omega) hT1).mono ?_
 rintro r w1 ⟨A1,c1,t1,rfl,hb,hD1⟩
 have K1:=zHe (H1.out.later hb)
 have K2:=zHe (H2.out.later hb)
 have HW1:=zHe hb
 have HD1:=zHe hD1
 have hc1:=hD1.2.1
 clear hb hD1 H1 H2
 go_wp2_with fail
 refine (K2.out.deedsT (by omega) hT2).mono ?_
 rintro r w2 ⟨A2,c2,t2,rfl,hb,hD2⟩
 have M1:=zHe (K1.out.later hb)
 have M2:=zHe (K2.out.later hb)
 have HW2:=zHe (zAB HW1.out hb)
 have HE1:=zHe (HD1.out.less hb)
 have HE2:=zHe hD2
 have hc2:=hD2.2.1
 rw [HD.out] at HE2 hc2 ⊢
 clear hb hD2 K1 K2 HW1 HD1
 go_wp2_with fail
 refine (M1.out.log (by omega)).mono ?_
 rintro r w3 ⟨v3,rfl,ho3,hb⟩
 obtain ⟨A3,c3,rfl⟩:=zAK ho3
 have K1:=zHe (M1.out.later hb)
 have K2:=zHe (M2.out.later hb)
 have HW3:=zHe (zAB HW2.out hb)
 have HF1:=zHe (HE1.out.less hb)
 have HF2:=zHe (HE2.out.less hb)
 have HL1:=zHe (IsAt.own ho3)
 have hc3:=zCA ho3
 clear hb ho3 M1 M2 HW2 HE1 HE2
 go_wp2_with fail
 refine (K2.out.log (by omega)).mono ?_
 rintro r w4 ⟨v4,rfl,ho4,hb⟩
 obtain ⟨A4,c4,rfl⟩:=zAK ho4
 have M1:=zHe (K1.out.later hb)
 have M2:=zHe (K2.out.later hb)
 have HW4:=zHe (zAB HW3.out hb)
 have HE1:=zHe (HF1.out.less hb)
 have HE2:=zHe (HF2.out.less hb)
 have HM1:=zHe (HL1.out.later hb)
 have HM2:=zHe (IsAt.own ho4)
 have hc4:=zCA ho4
 rw [HL.out] at HM2 hc4 ⊢
 clear hb ho4 K1 K2 HW3 HF1 HF2 HL1
 generalize hds : Y1.ds = ds at HE1 HE2 hdl hc1 hc2 ⊢
 obtain ⟨n,hn⟩ : ∃ n,ds.length = n:=⟨_,rfl⟩
 rw [hn] at HE1 HE2 hdl hc1 hc2 ⊢
 have HN:=zHe hn
 obtain ⟨L,hLe⟩ : ∃ L,Y1.L = L:=⟨_,rfl⟩
 rw [hLe] at HM1 HM2 hll hc3 hc4 ⊢
 obtain ⟨k,hk⟩ : ∃ k,L.length = k:=⟨_,rfl⟩
 rw [hk] at hll hc3 hc4 ⊢
 have HK:=zHe hk
 clear hds hn hLe hk
 go_wp2_with fail
 obtain ⟨v5,vd5,X5,hA5⟩:=M1.out.h
 refine (zEK hA5).mono ?_
 rintro r w5 ⟨rfl,hb⟩
 have K2:=zHe (M2.out.later hb)
 have HW5:=zHe (zAB HW4.out hb)
 have HF1:=zHe (HE1.out.less hb)
 have HF2:=zHe (HE2.out.less hb)
 have HL1:=zHe (HM1.out.later hb)
 have HL2:=zHe (HM2.out.later hb)
 clear hb hA5 M1 M2 HW4 HE1 HE2 HM1 HM2
 go_wp2_with fail
 obtain ⟨v6,vd6,X6,hA6⟩:=K2.out.h
 refine (zEK hA6).mono ?_
 rintro r w6 ⟨rfl,hb⟩
 rw [HT.out]
 have HW6:=zHe (zAB HW5.out hb)
 have HE1:=zHe (HF1.out.less hb)
 have HE2:=zHe (HF2.out.less hb)
 have HM1:=zHe (HL1.out.later hb)
 have HM2:=zHe (HL2.out.later hb)
 clear hb hA6 K2 HW5 HF1 HF2 HL1 HL2
 generalize Y1.now = tm
 go_wp2_with fail
 go_loopw [40] (fun iv wr => ∃ i : Nat,i ≤ n ∧ iv = .int .i64 i ∧ Hid (Below w6.heap.size w6 wr)) (fun iv _=>n - (RowKit.intOf iv).toNat)
 case atStart=>exact ⟨0,Nat.zero_le _,rfl,zHe (Below.refl _ _)⟩
 case round =>
  obtain ⟨i,hi,rfl,HW⟩:=hrel
  rcases Nat.lt_or_ge i n with hil | hil
  ·have hil' : (i : Int) < (n : Int):=by omega
   obtain ⟨d,hd⟩ : ∃ d,ds[i]? = some d:=⟨_,List.getElem?_eq_getElem (by rw [HN.out]; exact hil)⟩
   obtain ⟨rfl,hta,hat⟩:=(HE1.out.less HW.out).one0 hd
   obtain ⟨rfl,htb,hbt⟩:=(HE2.out.less HW.out).one0 hd
   obtain ⟨d0,d1,d2,d3,d4,d5,d6,d7,d8,d9,d10⟩:=hat
   obtain ⟨e0,e1,e2,e3,e4,e5,e6,e7,e8,e9,e10⟩:=hbt
   clear hd
   go_wp2_with fail
   refine zAN ((0,true) :: (1,true) :: (2,true) :: (3,true) :: (4,true) :: (5,true) :: (6,true) :: (7,true) :: (8,true) :: []) (by kernel_rfl) (by kernel_rfl) (by kernel_rfl) (by decide) (fun _ _ _ _ _ h=>h) (fun hHeld=>?_)
   repeat (first
    | (refine zAD (v := ?_) rfl ?_ ?_ ?_; rotate_left 1; rfl; (focus (intro wS hSw; have hk:=zAM hSw; go_simp; first | done | with_reducible rfl)); (try simp only [Act.put,qset]))
    | (refine zAC rfl ?_ ?_; rfl; (try simp only [Act.put,qset]))
    | (refine zAG rfl (fun K hK=>?_); go_simp; (try skip); (try go_wp2_with fail); refine hK.out _ _ ?_ ?_; (focus (first | exact zAB hHeld hb' | exact zAA hHeld _ | exact hHeld)); (try clear hb'); clear hHeld hK K; intro hHeld; (try simp only [Act.put,qset])))
   first | refine zAH ?_ | skip
   have HWn:=zHe (zAB HW.out hHeld)
   clear hHeld d0 d1 d2 d3 d4 d5 d6 d7 d8 d9 d10 e0 e1 e2 e3 e4 e5 e6 e7 e8 e9 e10
   go_wp2_with fail
   go_roundw
   case rel=>exact ⟨i + 1,by omega,by go_num,HWn⟩
   case measure=>first | omega | (simp [RowKit.intOf]; done) | (simp [RowKit.intOf]; omega)
  ·obtain rfl : i = n:=by omega
   have hnn : ¬ (i : Int) < (i : Int):=by omega
   have HW7:=zHe (zAB HW6.out HW.out)
   have HL1:=zHe (HM1.out.later HW.out)
   have HL2:=zHe (HM2.out.later HW.out)
   clear HW HE1 HE2 HM1 HM2 HW6
   go_wp2_with fail
   go_loopw [55] (fun jv wr2 => ∃ j : Nat,j ≤ k ∧ jv = .int .i64 j ∧ Hid (Below wr.heap.size wr wr2)) (fun jv _=>k - (RowKit.intOf jv).toNat)
   case atStart=>exact ⟨0,Nat.zero_le _,rfl,zHe (Below.refl _ _)⟩
   case round =>
    obtain ⟨j,hj,rfl,HW⟩:=hrel
    rcases Nat.lt_or_ge j k with hjl | hjl
    ·have hjl' : (j : Int) < (k : Int):=by omega
     obtain ⟨e,he⟩ : ∃ e,L[j]? = some e:=⟨_,List.getElem?_eq_getElem (by rw [HK.out]; exact hjl)⟩
     have hp : 0 < (flatE L).length:=by rw [zBC,HK.out]; omega
     obtain ⟨ba,oa,rfl,la,fa⟩:=HL1.out hp
     obtain ⟨bb,ob,rfl,lb,fb⟩:=HL2.out hp
     have ga : ∀ q u,e.cells[q]? = some u → wr.cell? ⟨ba,oa + j * 6 + q,none⟩ = some u:=fun q u hu=>(HW.out.cell (p:=⟨ba,oa + j * 6 + q,none⟩) la).trans (by rw [Nat.add_assoc]; exact fa (j * 6 + q) u (zFO L j e he q u hu))
     have gb : ∀ q u,e.cells[q]? = some u → wr.cell? ⟨bb,ob + j * 6 + q,none⟩ = some u:=fun q u hu=>(HW.out.cell (p:=⟨bb,ob + j * 6 + q,none⟩) lb).trans (by rw [Nat.add_assoc]; exact fb (j * 6 + q) u (zFO L j e he q u hu))
     have a0:=ga 0 _ rfl
     have a1:=ga 1 _ rfl
     have a2:=ga 2 _ rfl
     have a3:=ga 3 _ rfl
     have a4:=ga 4 _ rfl
     have a5:=ga 5 _ rfl
     have b0:=gb 0 _ rfl
     have b1':=gb 1 _ rfl
     have b2':=gb 2 _ rfl
     have b3:=gb 3 _ rfl
     have b4:=gb 4 _ rfl
     have b5:=gb 5 _ rfl
     rw [Nat.add_zero] at a0 b0
     clear ga gb fa fb hp he
     go_wp2_with fail
     refine zAN ((0,true) :: (1,true) :: (2,true) :: (3,true) :: (4,true) :: (5,true) :: (6,true) :: (7,true) :: (8,true) :: []) (by kernel_rfl) (by kernel_rfl) (by kernel_rfl) (by decide) (fun _ _ _ _ _ h=>h) (fun hHeld=>?_)
     repeat (first
      | (refine zAD (v := ?_) rfl ?_ ?_ ?_; rotate_left 1; rfl; (focus (intro wS hSw; have hk:=zAM hSw; go_simp; first | done | with_reducible rfl)); (try simp only [Act.put,qset]))
      | (refine zAC rfl ?_ ?_; rfl; (try simp only [Act.put,qset]))
      | (refine zAG rfl (fun K hK=>?_); go_simp; (try skip); (try go_wp2_with fail); refine hK.out _ _ ?_ ?_; (focus (first | exact zAB hHeld hb' | exact zAA hHeld _ | exact hHeld)); (try clear hb'); clear hHeld hK K; intro hHeld; (try simp only [Act.put,qset])))
     first | refine zAH ?_ | skip
     have HWn:=zHe (zAB HW.out hHeld)
     clear hHeld a0 a1 a2 a3 a4 a5 b0 b1' b2' b3 b4 b5
     go_wp2_with fail
     go_roundw
     case rel=>exact ⟨j + 1,by omega,by go_num,HWn⟩
     case measure=>first | omega | (simp [RowKit.intOf]; done) | (simp [RowKit.intOf]; omega)
    ·obtain rfl : j = k:=by omega
     have hnn : ¬ (j : Int) < (j : Int):=by omega
     go_wp2_with fail
     go_ret
     exact ⟨rfl,zAB HW7.out HW.out⟩
end
section
open Go.RowKit
theorem zCi {W w : World} {l : List Thing} {B : YB} {Y : Yd} {J : Nat → Nat} {n N : Nat} (h : YdL W w l B N Y J n) (hn : n < 1000000) (m : CM) (hf : m.Fit) :
  Calls Tryz.prog 14 #[pt B.yb,m.val] w fun r w' => ∃ a l' J' Y',r = .returned (i64 a) ∧ PDo B N m Y Y' a ∧ YdL W w' l' B N Y' J' (n + 1) ∧ YGo Y Y' l l' J J':=by
 obtain ⟨k,who,ck,ce,x,s,mn⟩:=m
 have HY:=zHe (h.later (zAA (Below.refl w.heap.size w) ((⟨k,who,ck,ce,x,s,mn⟩ : CM).obj 39)))
 have HO:=zHe (IsObj.made w [.int .i64 k,.int .i64 who,.int .i64 ck,.int .i64 ce,.int .u64 x,.int .i64 s,.int .i64 mn] 39)
 have HF:=zHe (show 0 ≤ x ∧ x ≤ 18446744073709551615 from hf)
 have HT:=zHe h.hT
 clear h hf
 unfold CM.val
 simp only
 rcases (by omega : k = 0 ∨ k = 1 ∨ k = 2 ∨ (k ≠ 0 ∧ k ≠ 1 ∧ k ≠ 2)) with rfl | rfl | rfl | ⟨h0,h1,h2⟩
 ·by_cases hw : who < 0 ∨ B.t ≤ who
  ·obtain ⟨v,vd,X,hA⟩:=HY.out.h
   have HA:=zHe hA
   have HW:=zHe hw
   clear hA hw
   go_enter Tryz.func14,Tryz.ntmps14
   go_wp2_with fail
   refine (zDV HA.out who HW.out ck ce x s).mono ?_
   rintro r w' ⟨rfl,hb⟩
   have HZ:=zHe (HY.out.later hb)
   clear hb HA HY HO
   go_wp2
   go_ret
   exact ⟨1,l,J,Y,rfl,.out rfl (HW.out.elim .inl (fun h=>.inr (.inl h))),HZ.out.next hn .rest HZ.out.h,YGo.refl _ _ _⟩
  ·obtain ⟨q,rfl⟩ : ∃ q : Nat,who = q:=⟨who.toNat,by omega⟩
   have hqT : q < B.T:=by have:=HT.out; omega
   by_cases ha : (ck = 0 ∨ ck = 1) ∧ (ce = 0 ∨ ce = 1)
   ·obtain ⟨take,hk⟩ : ∃ take : Bool,kdI take = ck:=by
     rcases ha.1 with h | h
     ·exact ⟨false,h.symm⟩
     ·exact ⟨true,h.symm⟩
    have HK:=zHe hk
    have HAs:=zHe ha
    clear hk ha hw
    go_enter Tryz.func14,Tryz.ntmps14
    go_wp2_with fail
    refine (HY.out.call hn q hqT take HK.out ce x s HAs.out.2 HF.out.1 HF.out.2).mono ?_
    rintro r w' ⟨l',J',Y',hd,hg,h3⟩
    have HD:=zHe hd
    have HG:=zHe hg
    clear hd hg HY HO
    rcases h3 with ⟨rfl,rfl,a,hq⟩ | ⟨rfl,hq,rfl⟩
    ·have HQ:=zHe hq
     clear hq
     go_wp2
     go_ret
     exact ⟨2,l',J',_,rfl,.busy q a rfl rfl HAs.out HQ.out,HD.out,HG.out⟩
    ·have HQ:=zHe hq
     clear hq
     go_wp2
     go_ret
     exact ⟨0,l',J',_,rfl,.call q take rfl rfl HK.out HAs.out.2 HQ.out,HD.out,HG.out⟩
   ·obtain ⟨v,vd,X,hA⟩:=HY.out.h
    have HA:=zHe hA
    have HAs:=zHe ha
    clear hA ha hw
    go_enter Tryz.func14,Tryz.ntmps14
    go_wp2_with fail
    refine (zCF HA.out q hqT ck ce x s HAs.out).mono ?_
    rintro r w' ⟨rfl,hb⟩
    have HZ:=zHe (HY.out.later hb)
    clear hb HA HY HO
    go_wp2
    go_ret
    exact ⟨1,l,J,Y,rfl,.out rfl (.inr (.inr HAs.out)),HZ.out.next hn .rest HZ.out.h,YGo.refl _ _ _⟩
 ·skip
  go_enter Tryz.func14,Tryz.ntmps14
  go_wp2_with fail
  refine (zCK HY.out.cf HY.out.h HY.out.ok hn who).mono ?_
  rintro r w1 ⟨b,l',J',Y',rfl,hl',hg,h3⟩
  have HL:=zHe hl'
  have HG:=zHe hg
  have H3:=zHe h3
  clear hl' hg h3 HO
  cases b with
  | false =>
   go_wp2
   go_ret
   rcases H3.out with ⟨_,h4,h5⟩ | ⟨h4,_⟩
   ·have hL:=HL.out
    have hG:=HG.out
    rw [h4] at hL hG
    exact ⟨5,l',J',Y,rfl,.none rfl h5,HY.out.next hn .rest hL,hG⟩
   ·cases h4
  | true =>
   go_wp2
   go_ret
   rcases H3.out with ⟨h4,_⟩ | ⟨_,k,T,i,z,h5,h6,h7,h8⟩
   ·cases h4
   ·have hL:=HL.out
    have hG:=HG.out
    rw [h8] at hL hG
    exact ⟨0,l',J',_,rfl,.step k T i z rfl h5.symm h6 h7,HY.out.next hn (.step k T i z h6 h7) hL,hG⟩
 ·have n0:=HY.out.ok.now0
  have n1:=HY.out.ok.now1
  obtain ⟨v,vd,X,hA⟩:=HY.out.h
  have HA:=zHe hA
  clear hA
  rcases (by omega : mn ≤ 0 ∨ 0 < mn) with hm0 | hm0
  ·skip
   go_enter Tryz.func14,Tryz.ntmps14
   go_wp2_with fail
   refine (zCe HA.out mn hm0).mono ?_
   rintro r w1 ⟨rfl,rfl⟩
   clear HA HO
   go_wp2
   go_ret
   exact ⟨0,l,J,Y,rfl,.still rfl (by show ¬ 0 < mn; omega),HY.out.next hn .rest HY.out.h,YGo.refl _ _ _⟩
  ·skip
   go_enter Tryz.func14,Tryz.ntmps14
   go_wp2_with fail
   refine (zBf HA.out mn hm0 n0 n1).mono ?_
   rintro r w1 ⟨rfl,l',hl',hle,hke⟩
   have HL:=zHe hl'
   have HG : Hid (YGo Y (Y.pass mn) l l' J J):=zHe (zF2 hle hke)
   clear hl' hle hke HA HO
   go_wp2
   go_ret
   exact ⟨0,l',J,_,rfl,.pass rfl hm0,HY.out.next hn (.pass mn hm0) ⟨_,_,_,HL.out⟩,HG.out⟩
 ·have e0 : (k == 0) = false:=beq_false_of_ne h0
  have e1 : (k == 1) = false:=beq_false_of_ne h1
  have e2 : (k == 2) = false:=beq_false_of_ne h2
  have H0:=zHe (And.intro h0 (And.intro h1 h2))
  clear h0 h1 h2 HO
  go_enter Tryz.func14,Tryz.ntmps14
  go_wp2_with fail
  go_ret
  exact ⟨1,l,J,Y,rfl,.other H0.out.1 H0.out.2.1 H0.out.2.2,HY.out.next hn .rest HY.out.h,YGo.refl _ _ _⟩
theorem zFK (t s so d : Int) (v : Value) (w : World) (hr : rightC t s so d = false) :
  Calls Tryz.prog 11 #[scV t s so d v] w fun r w'=>r = .returned (.tuple #[.pointer none,.slice none 0 0,i64 1]) ∧ Below w.heap.size w w':=by
 have HR:=zHe hr
 clear hr
 unfold scV
 go_enter Tryz.func11,Tryz.ntmps11
 go_wp2_with fail
 refine (zHO t s so d _ HR.out).mono ?_
 rintro r w2 ⟨rfl,hb2⟩
 have HB:=zHe (zAB (zAA (Below.refl w.heap.size w) (.cells #[.int .i64 t,.int .i64 s,.int .i64 so,.int .i64 d,v] 29)) hb2)
 clear hb2
 go_wp2_with fail
 exact bodyPost_ret (v:=.tuple #[.pointer none,.slice none 0 0,i64 1]) (by simp [results,Tryz.results11,go_sem]) rfl ⟨rfl,HB.out⟩
end
end Go.Proofs.YtebgjfhaolgcjaaGreat
