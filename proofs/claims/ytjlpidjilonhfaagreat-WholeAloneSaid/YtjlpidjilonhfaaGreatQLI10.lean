/- Contracts and plain lemmas that these laws need. No condition. -/
import Derived.Lib.SlKeysI
import Derived.Maps.OwnOps
import Derived.Maps.OwnSet
import Derived.Maps.RangeWalk
import Derived.Test.YtjlpidjilonhfaaGreatQLI1
import Derived.Test.YtjlpidjilonhfaaGreatQLI2
import Derived.Test.YtjlpidjilonhfaaGreatQLI4
import Derived.Test.YtjlpidjilonhfaaGreatQLI5
import Derived.Test.YtjlpidjilonhfaaGreatQLI7
import Derived.Test.YtjlpidjilonhfaaGreatQLI8
import Derived.Test.YtjlpidjilonhfaaGreatQLI9
namespace Go.Proofs.YtjlpidjilonhfaaGreat
set_option linter.unusedVariables false
set_option maxHeartbeats 8000000
set_option maxRecDepth 100000
section
open Go.RowKit
def Wk.lim (T : Wk) (N put tn : Nat) : Nat:=match T with
 | .pu _=>put
 | .ge _=>(tn + 1) * (4 * N + 10)
theorem Wk.lim_step (T : Wk) (P : Pl) (C : List Int) (now z : Int) (N put tn : Nat) : (T.step P C now z).lim N put tn = T.lim N put tn:=by
 cases T <;> rfl
theorem Wk.lim_mono (T : Wk) {N put tn tn' : Nat} (h : tn ≤ tn') : T.lim N put tn ≤ T.lim N put tn':=by
 cases T with
 | pu k=>exact Nat.le_refl _
 | ge k=>exact Nat.mul_le_mul_right _ (by omega)
def OLeft (P : Pl) (T : Wk) (C : List Int) (put own tn : Nat) : Prop := ∃ m,WLeft P T C m ∧ m ≤ T.lim P.N put 0 ∧ own + m ≤ T.lim P.N put tn
section
variable {P : Pl} {T : Wk} {C C' : List Int} {put own tn tn' : Nat} {now z : Int}
theorem OLeft.le (h : OLeft P T C put own tn) : own ≤ T.lim P.N put tn:=by
 obtain ⟨m,_,_,h3⟩:=h
 omega
theorem OLeft.new (h : WLeft P T C (T.lim P.N put 0)) : OLeft P T C put 0 0:=⟨_,h,Nat.le_refl _,by omega⟩
theorem OLeft.again (h : OLeft P T C put own tn) : OLeft P T C put 0 0:=by
 obtain ⟨m,h1,h2,_⟩:=h
 exact ⟨m,h1,h2,by omega⟩
theorem OLeft.more (h : OLeft P T C put own tn) (ht : tn ≤ tn') : OLeft P T C put own tn':=by
 obtain ⟨m,h1,h2,h3⟩:=h
 exact ⟨m,h1,h2,Nat.le_trans h3 (T.lim_mono ht)⟩
theorem OLeft.same (h : OLeft P T C put own tn) (hk : T.Ok P C) (hp : T.ph = 0) (e : WSame P.N C C') : OLeft P T C' put own tn:=by
 obtain ⟨m,h1,h2,h3⟩:=h
 exact ⟨m,h1.same hk hp e,h2,h3⟩
theorem OLeft.turn (h : OLeft P T C put own tn) (C' : List Int) (hk : T.Ok P C) (hp : T.ph = 0) : OLeft P T C' put own (tn + 1):=by
 obtain ⟨m,h1,h2,h3⟩:=h
 cases T with
 | pu k=>exact ⟨m,h1,h2,h3⟩
 | ge k =>
  have h3' : own + m ≤ (tn + 1) * (4 * P.N + 10):=h3
  refine ⟨4 * P.N + 10,GLeft.turn h1 C' hk.1 hp, ?_, ?_⟩
  ·show 4 * P.N + 10 ≤ (0 + 1) * (4 * P.N + 10)
   omega
  ·show own + (4 * P.N + 10) ≤ (tn + 1 + 1) * (4 * P.N + 10)
   rw [Nat.add_mul (tn + 1) 1,Nat.one_mul]
   omega
theorem OLeft.step (h : OLeft P T C put own tn) (hk : T.Ok P C) (hp : T.ph = 0) (ha : T.ask C z) (n0 : 0 ≤ now) (hf : ∀ j,0 ≤ C.getD j 0) : own + 1 ≤ T.lim P.N put tn ∧ ((T.step P C now z).ph ≠ 0 ∨ OLeft P (T.step P C now z) (T.cells P C now) put (own + 1) tn):=by
 obtain ⟨m,h1,h2,h3⟩:=h
 obtain ⟨g1,g2⟩:=h1.step hk hp ha n0 hf (now:=now)
 refine ⟨by omega,g2.imp id (fun g=>⟨m - 1,g, ?_, ?_⟩)⟩
 ·rw [T.lim_step]
  omega
 ·rw [T.lim_step]
  omega
end
def tot (f : Nat → Nat) : Nat → Nat
 | 0=>0
 | n + 1=>tot f n + f n
def updN (f : Nat → Nat) (k v : Nat) : Nat → Nat:=fun j=>if j = k then v else f j
theorem zA8 (f : Nat → Nat) (k v : Nat) : updN f k v k = v:=if_pos rfl
theorem zAX {f : Nat → Nat} {k v j : Nat} (h : j ≠ k) : updN f k v j = f j:=if_neg h
def othN (f : Nat → Nat) (w d : Nat) : Nat → Nat:=fun k=>if k = w then f w else f k + d
theorem zCd (f : Nat → Nat) (w d : Nat) : othN f w d w = f w:=if_pos rfl
theorem zB4 {f : Nat → Nat} {w d k : Nat} (h : k ≠ w) : othN f w d k = f k + d:=if_neg h
theorem zEF (f : Nat → Nat) (k : Nat) : ∀ n,tot (updN f k (f k + 1)) n = tot f n + if k < n then 1 else 0
 | 0=>rfl
 | n + 1=>by
  have ih:=zEF f k n
  rw [tot,tot,ih]
  by_cases e : n = k
  ·subst e
   rw [zA8,if_neg (Nat.lt_irrefl _),if_pos (Nat.lt_succ_self _)]
   omega
  ·rw [zAX e]
   by_cases h : k < n
   ·rw [if_pos h,if_pos (by omega)]
    omega
   ·rw [if_neg h,if_neg (by omega)]
    omega
theorem zGa {f : Nat → Nat} {b : Nat} : ∀ {n : Nat},(∀ k,k < n → f k ≤ b) → tot f n ≤ n * b
 | 0,_=>by simp [tot]
 | n + 1,h=>by
  have ih:=zGa (n:=n) (fun k hk=>h k (by omega))
  have:=h n (by omega)
  rw [tot,Nat.add_mul,Nat.one_mul]
  omega
theorem zDJ {f : Nat → Nat} {n : Nat} (h : ∀ k,f k = 0) : tot f n = 0:=by
 induction n with
 | zero=>rfl
 | succ n ih=>rw [tot,ih,h n]
theorem zGL {f : Nat → Nat} {k : Nat} : ∀ {n : Nat},k < n → f k ≤ tot f n
 | 0,h=>absurd h (Nat.not_lt_zero _)
 | n + 1,h=>by
  rw [tot]
  by_cases e : k = n
  ·subst e
   omega
  ·have:=zGL (f:=f) (n:=n) (k:=k) (by omega)
   omega
theorem zGG {f : Nat → Nat} {k : Nat} (h1 : ∀ j,f j ≤ 1) : ∀ {n : Nat},k < n → tot f n - f k + 1 ≤ n
 | 0,h=>absurd h (Nat.not_lt_zero _)
 | n + 1,h=>by
  have hn:=h1 n
  rw [tot]
  by_cases e : k = n
  ·subst e
   have:=zGa (f:=f) (b:=1) (n:=k) (fun j _=>h1 j)
   omega
  ·have ih:=zGG h1 (n:=n) (k:=k) (by omega)
   have hg:=zGL (f:=f) (n:=n) (k:=k) (by omega)
   omega
section
variable {pl : Nat → Pl} {t n N put : Nat} {Y : Yd} {own tn : Nat → Nat}
def Books (pl : Nat → Pl) (put : Nat) (Y : Yd) (own tn : Nat → Nat) : Prop:=∀ (k : Nat) (T : Wk) (i : Nat),Y.ts[k]? = some (some (T,i)) → OLeft (pl k) T Y.C put (own k) (tn k)
theorem Books.none (h : ∀ (k : Nat) (a : Wk × Nat),Y.ts[k]? ≠ some (some a)) : Books pl put Y own tn:=fun k T i hk=>absurd hk (h k _)
theorem Books.call (h : Books pl put Y own tn) {w : Nat} {kd e x s : Int} {T : Wk} (hw : Y.ts[w]? = some .none) (hT : OLeft (pl w) T Y.C put 0 0) : Books pl put (Y.call w kd e x s T) (updN own w 0) (updN tn w 0):=fun k T' i hk=>by
 have hk' : (Y.ts.set w (some (T,Y.ds.length)))[k]? = some (some (T',i)):=hk
 rw [List.getElem?_set] at hk'
 split at hk'
 ·rename_i e1
  subst e1
  rw [zA8,zA8]
  split at hk'
  ·cases hk'
   exact hT
  ·cases hk'
 ·rename_i e1
  rw [zAX (fun e2=>e1 e2.symm),zAX (fun e2=>e1 e2.symm)]
  exact h k T' i hk'
theorem zCL {P : Pl} {w : Nat} {T : Wk} {i : Nat} {z : Int} {k : Nat} {T' : Wk} {i' : Nat} (h : (Y.step P w T i z).ts[k]? = some (some (T',i'))) : (k = w ∧ T' = T.step P Y.C Y.now z ∧ (T.step P Y.C Y.now z).ph = 0) ∨ (k ≠ w ∧ Y.ts[k]? = some (some (T',i'))):=by
 have h' : (if (T.step P Y.C Y.now z).ph = 0 then Y.ts.set w (some (T.step P Y.C Y.now z,i)) else Y.ts.set w Option.none)[k]? = some (some (T',i')):=h
 split at h'
 ·rename_i hp
  rw [List.getElem?_set] at h'
  split at h'
  ·rename_i e1
   split at h'
   ·cases h'
    exact .inl ⟨e1.symm,rfl,hp⟩
   ·cases h'
  ·rename_i e1
   exact .inr ⟨fun e2=>e1 e2.symm,h'⟩
 ·rw [List.getElem?_set] at h'
  split at h'
  ·split at h'
   ·cases h'
   ·cases h'
  ·rename_i e1
   exact .inr ⟨fun e2=>e1 e2.symm,h'⟩
theorem Books.step (h : Books pl put Y own tn) (ho : YOk pl t n Y) (hN : ∀ k,(pl k).N = N) {w : Nat} {T : Wk} {i : Nat} {z : Int} (hw : Y.ts[w]? = some (some (T,i))) (ha : T.ask Y.C z) (hf : ∀ j,0 ≤ Y.C.getD j 0) {dl : Nat} (hd : WSame N Y.C (T.cells (pl w) Y.C Y.now) ∨ 1 ≤ dl) :
  own w + 1 ≤ T.lim N put (tn w) ∧ Books pl put (Y.step (pl w) w T i z) (updN own w (own w + 1)) (othN tn w dl):=by
 obtain ⟨k1,k2,k3,k4,_⟩:=ho.task w T i hw
 obtain ⟨g1,g2⟩:=(h w T i hw).step k1 k4 ha ho.now0 hf (now:=Y.now)
 rw [hN w] at g1
 refine ⟨g1,fun k T' i' hk=>?_⟩
 rcases zCL hk with ⟨rfl,rfl,hp⟩ | ⟨hne,hk⟩
 ·rw [zA8,zCd]
  exact g2.resolve_left (fun hh=>hh hp)
 ·rw [zAX hne,zB4 hne]
  obtain ⟨q1,q2,q3,q4,_⟩:=ho.task k T' i' hk
  have hb:=h k T' i' hk
  rcases hd with hd | hd
  ·exact (hb.same q1 q4 (by rw [hN k]; exact hd)).more (by omega)
  ·exact (hb.turn _ q1 q4).more (by omega)
structure Stretch (pl : Nat → Pl) (t put : Nat) (Y : Yd) (s tu : Nat → Nat) : Prop where
 books : Books pl put Y s (fun k=>tot tu t - tu k)
 one : ∀ k,tu k ≤ 1
 last : ∀ (k : Nat) (T : Wk) (i : Nat),Y.ts[k]? = some (some (T,i)) → tu k = 1 → T.last
 idle : ∀ k,(∀ a,Y.ts[k]? ≠ some (some a)) → s k = 0 ∧ tu k = 0
theorem Stretch.short (h : Stretch pl t put Y (own) tn) (ho : YOk pl t n Y) (hN : ∀ k,(pl k).N = N) (ht : 1 ≤ t) {b : Nat} (h1 : put ≤ b) (h2 : t * (4 * N + 10) ≤ b) : tot own t ≤ t * b:=by
 refine zGa (fun k hk=>?_)
 have hlt : k < Y.ts.length:=by rw [ho.len]; exact hk
 cases hq : Y.ts[k]? with
 | none =>
  have:=List.getElem?_eq_none_iff.1 hq
  omega
 | some a =>
  cases a with
  | none =>
   rw [(h.idle k (fun a ha=>by rw [hq] at ha; cases ha)).1]
   exact Nat.zero_le _
  | some a =>
   have hb:=(h.books k a.1 a.2 hq).le
   refine Nat.le_trans hb ?_
   rw [hN k]
   have h3:=zGG (f:=tn) h.one hk
   cases ha : a.1 with
   | pu q=>exact h1
   | ge q =>
    show (tot tn t - tn k + 1) * (4 * N + 10) ≤ b
    exact Nat.le_trans (Nat.mul_le_mul_right _ h3) h2
theorem Stretch.step (h : Stretch pl t put Y own tn) (ho : YOk pl t n Y) (hN : ∀ k,(pl k).N = N) {w : Nat} {T : Wk} {i : Nat} {z : Int} (hw : Y.ts[w]? = some (some (T,i))) (ha : T.ask Y.C z) (hf : ∀ j,0 ≤ Y.C.getD j 0) (hp : (T.step (pl w) Y.C Y.now z).ph = 0) :
  ∃ tn',Stretch pl t put (Y.step (pl w) w T i z) (updN own w (own w + 1)) tn' ∧ tot (updN own w (own w + 1)) t = tot own t + 1:=by
 have hwt : w < t:=by rw [← ho.len]; exact (List.getElem?_eq_some_iff.1 hw).1
 obtain ⟨k1,k2,k3,k4,_⟩:=ho.task w T i hw
 have hu0 : tn w = 0:=by
  have:=h.one w
  by_cases e : tn w = 1
  ·have h1:=Wk.last_over (P:=pl w) (C:=Y.C) (now:=Y.now) (z:=z) k1 (h.last w T i hw e)
   omega
  ·omega
 have htot : tot (updN own w (own w + 1)) t = tot own t + 1:=by rw [zEF,if_pos hwt]
 have hidle : ∀ k,(∀ a,(Y.step (pl w) w T i z).ts[k]? ≠ some (some a)) → k ≠ w ∧ ∀ a,Y.ts[k]? ≠ some (some a):=fun k hk=>by
  have e1 : (Y.step (pl w) w T i z).ts = Y.ts.set w (some (T.step (pl w) Y.C Y.now z,i)):=if_pos hp
  have hne : k ≠ w:=fun e=>by
   subst e
   refine hk (T.step (pl k) Y.C Y.now z,i) ?_
   rw [e1,List.getElem?_set_self (List.getElem?_eq_some_iff.1 hw).1]
  refine ⟨hne,fun a ha=>hk a ?_⟩
  rw [e1,List.getElem?_set_ne (fun e=>hne e.symm)]
  exact ha
 rcases Wk.words (now:=Y.now) (z:=z) k1 k4 with hs | ⟨_,hl⟩
 ·rw [hN w] at hs
  obtain ⟨g1,g2⟩:=h.books.step ho hN hw ha hf (dl:=0) (.inl hs)
  refine ⟨tn,⟨fun k T' i' hk=>?_,h.one,fun k T' i' hk hu=>?_,fun k hk=>?_⟩,htot⟩
  ·have h9:=g2 k T' i' hk
   by_cases e : k = w
   ·subst e
    rw [zCd] at h9
    exact h9
   ·rw [zB4 e] at h9
    exact h9
  ·rcases zCL hk with ⟨rfl,_⟩ | ⟨hne,hk⟩
   ·omega
   ·exact h.last k T' i' hk hu
  ·obtain ⟨hne,hk'⟩:=hidle k hk
   rw [zAX hne]
   exact h.idle k hk'
 ·have hlast : (T.step (pl w) Y.C Y.now z).last:=by
   rcases hl with hl | hl
   ·omega
   ·exact hl
  obtain ⟨g1,g2⟩:=h.books.step ho hN hw ha hf (dl:=1) (.inr (Nat.le_refl _))
  have htu : tot (updN tn w 1) t = tot tn t + 1:=by
   have:=zEF tn w t
   rw [hu0,if_pos hwt] at this
   exact this
  refine ⟨updN tn w 1,⟨fun k T' i' hk=>?_,fun k=>?_,fun k T' i' hk hu=>?_,fun k hk=>?_⟩,htot⟩
  ·have h9:=g2 k T' i' hk
   show OLeft (pl k) T' (Y.step (pl w) w T i z).C put _ (tot (updN tn w 1) t - updN tn w 1 k)
   by_cases e : k = w
   ·subst e
    rw [zCd,hu0] at h9
    show OLeft _ _ _ put (updN own k (own k + 1) k) (tot (updN tn k 1) t - updN tn k 1 k)
    rw [zA8 tn,htu]
    exact h9.more (by omega)
   ·rw [zB4 e] at h9
    rw [htu,zAX (f:=tn) e]
    have hkt : k < t:=by
     rcases zCL hk with ⟨e2,_⟩ | ⟨_,hk2⟩
     ·exact absurd e2 e
     ·rw [← ho.len]
      exact (List.getElem?_eq_some_iff.1 hk2).1
    have hg:=zGL (f:=tn) hkt
    have hle : (tot tn t - tn k) + 1 ≤ tot tn t + 1 - tn k:=by omega
    exact OLeft.more h9 hle
  ·by_cases e : k = w
   ·subst e
    rw [zA8]
    exact Nat.le_refl _
   ·rw [zAX e]
    exact h.one k
  ·rcases zCL hk with ⟨rfl,rfl,_⟩ | ⟨hne,hk⟩
   ·exact hlast
   ·rw [zAX hne] at hu
    exact h.last k T' i' hk hu
  ·obtain ⟨hne,hk'⟩:=hidle k hk
   rw [zAX hne,zAX hne]
   exact h.idle k hk'
theorem Stretch.ended (h : Stretch pl t put Y own tn) (ho : YOk pl t n Y) (hN : ∀ k,(pl k).N = N) {w : Nat} {T : Wk} {i : Nat} {z : Int} (hw : Y.ts[w]? = some (some (T,i))) (ha : T.ask Y.C z) (hf : ∀ j,0 ≤ Y.C.getD j 0) :
  Stretch pl t put (Y.step (pl w) w T i z) (fun _=>0) (fun _=>0):=by
 obtain ⟨g1,g2⟩:=h.books.step ho hN hw ha hf (dl:=1) (.inr (Nat.le_refl _))
 exact ⟨fun k T' i' hk=>(g2 k T' i' hk).again.more (Nat.zero_le _),fun _=>Nat.zero_le _,fun k T' i' _ hu=>absurd hu (by decide),fun _ _=>⟨rfl,rfl⟩⟩
end
theorem OLeft.begun {t s so d who e x start m : Int} {N nb h0 hw put : Nat} {C : List Int} (take : Bool) (hl : Lay t s N) (hput : s * (t + 1) + most t so d + 2 = (put : Int)) : OLeft ⟨N,m,nb,h0,hw⟩ (wk0 t s so d who take e x start m N) C put 0 0:=by
 refine OLeft.new ?_
 cases take with
 | true =>
  show GLeft N (ge0 t s so d who e start N) C ((0 + 1) * (4 * N + 10))
  rw [Nat.zero_add,Nat.one_mul]
  exact GLeft.start hl
 | false =>
  show (pu0 t s so d who e x m).rem m ≤ (put : Int)
  rw [zIn]
  omega
end
section
open Go.RowKit
def busyN (Y : Yd) : Nat:=Y.ts.countP Option.isSome
def FinM (pl : Nat → Pl) (t put b : Nat) (Y : Yd) (μ : Nat) : Prop := ∃ s tu,Stretch pl t put Y s tu ∧ busyN Y * (t * b + 1) + (t * b - tot s t) ≤ μ
section
variable {pl : Nat → Pl} {t n N put b μ : Nat} {Y : Yd}
theorem FinM.of (h : Books pl put Y (fun _=>0) (fun _=>0)) : FinM pl t put b Y (busyN Y * (t * b + 1) + t * b):=by
 refine ⟨fun _=>0,fun _=>0,⟨fun k T i hk=>?_,fun _=>Nat.zero_le _,fun k T i _ hu=>absurd hu (by decide),fun _ _=>⟨rfl,rfl⟩⟩, ?_⟩
 ·have h1:=h k T i hk
  have e : tot (fun _=>0) t - 0 = 0:=by rw [zDJ (fun _=>rfl)]
  show OLeft (pl k) T Y.C put 0 (tot (fun _=>0) t - 0)
  rw [e]
  exact h1
 ·rw [zDJ (fun _=>rfl)]
  omega
theorem zIj (ho : YOk pl t n Y) : busyN Y ≤ t:=by
 have:=List.countP_le_length (p:=Option.isSome) (l:=Y.ts)
 rw [ho.len] at this
 exact this
theorem zGR {w : Nat} {a a' : Wk × Nat} (hw : Y.ts[w]? = some (some a)) : (Y.ts.set w (some a')).countP Option.isSome = busyN Y:=by
 obtain ⟨hl,he⟩:=List.getElem?_eq_some_iff.1 hw
 have hpos : 0 < Y.ts.countP Option.isSome:=List.countP_pos_iff.2 ⟨_,List.getElem_mem hl,by rw [he]; rfl⟩
 rw [List.countP_set hl,he]
 show Y.ts.countP Option.isSome - 1 + 1 = Y.ts.countP Option.isSome
 omega
theorem zH1 {w : Nat} {a : Wk × Nat} (hw : Y.ts[w]? = some (some a)) : (Y.ts.set w none).countP Option.isSome + 1 = busyN Y:=by
 obtain ⟨hl,he⟩:=List.getElem?_eq_some_iff.1 hw
 have hpos : 0 < Y.ts.countP Option.isSome:=List.countP_pos_iff.2 ⟨_,List.getElem_mem hl,by rw [he]; rfl⟩
 rw [List.countP_set hl,he]
 show Y.ts.countP Option.isSome - 1 + 0 + 1 = Y.ts.countP Option.isSome
 omega
theorem FinM.step (h : FinM pl t put b Y μ) (ho : YOk pl t n Y) (hN : ∀ k,(pl k).N = N) (ht : 1 ≤ t) (h1 : put ≤ b) (h2 : t * (4 * N + 10) ≤ b) {w : Nat} {T : Wk} {i : Nat} {z : Int} (hw : Y.ts[w]? = some (some (T,i))) (ha : T.ask Y.C z) (hf : ∀ j,0 ≤ Y.C.getD j 0)
  {n' : Nat} (ho' : YOk pl t n' (Y.step (pl w) w T i z)) : ∃ μ',μ' < μ ∧ FinM pl t put b (Y.step (pl w) w T i z) μ':=by
 obtain ⟨s,tu,hS,hμ⟩:=h
 have hs:=hS.short ho hN ht h1 h2
 by_cases hp : (T.step (pl w) Y.C Y.now z).ph = 0
 ·obtain ⟨tu',hS',htot⟩:=hS.step ho hN hw ha hf hp
  have hs':=hS'.short ho' hN ht h1 h2
  refine ⟨busyN Y * (t * b + 1) + (t * b - tot s t) - 1,by omega,_,tu',hS', ?_⟩
  have e : busyN (Y.step (pl w) w T i z) = busyN Y:=by
   show (if (T.step (pl w) Y.C Y.now z).ph = 0 then Y.ts.set w (some (T.step (pl w) Y.C Y.now z,i)) else Y.ts.set w none).countP Option.isSome = _
   rw [if_pos hp]
   exact zGR hw
  rw [e,htot]
  rw [htot] at hs'
  omega
 ·have e : busyN (Y.step (pl w) w T i z) + 1 = busyN Y:=by
   show (if (T.step (pl w) Y.C Y.now z).ph = 0 then Y.ts.set w (some (T.step (pl w) Y.C Y.now z,i)) else Y.ts.set w none).countP Option.isSome + 1 = _
   rw [if_neg hp]
   exact zH1 hw
  refine ⟨busyN Y * (t * b + 1) + (t * b - tot s t) - 1, ?_,_,_,hS.ended ho hN hw ha hf, ?_⟩
  ·rw [← e,Nat.add_mul,Nat.one_mul] at hμ ⊢
   omega
  ·rw [← e,Nat.add_mul,Nat.one_mul,zDJ (fun _=>rfl)]
   omega
end
inductive Tick (B : YB) (N : Nat) (Y0 : Yd) : Nat → Yd → Nat → Prop
 | zero : Tick B N Y0 0 Y0 0
 | skip {j : Nat} {Y : Yd} {s : Nat} (h : Tick B N Y0 j Y s) (hn : Y.ts[j % B.T]? = some none) : Tick B N Y0 (j + 1) Y s
 | step {j : Nat} {Y : Yd} {s : Nat} (h : Tick B N Y0 j Y s) (T : Wk) (i : Nat) (z : Int) (hk : Y.ts[j % B.T]? = some (some (T,i))) (ha : T.ask Y.C z) : Tick B N Y0 (j + 1) (Y.step (plOf B N (j % B.T)) (j % B.T) T i z) (s + 1)
section
variable {B B' : YB} {N : Nat} {Y0 Y Y' : Yd} {j s s' : Nat}
theorem Tick.like (h : Tick B N Y0 j Y s) (hB : B.like B') : Tick B' N Y0 j Y s:=by
 obtain ⟨yb,tb,p,c,t,st,so,d,T⟩:=B
 obtain ⟨yb',tb',p',c',t',st',so',d',T'⟩:=B'
 obtain ⟨h1,h2,h3,h4,h5⟩:=hB
 simp only at h1 h2 h3 h4 h5
 subst h1 h2 h3 h4 h5
 induction h with
 | zero=>exact .zero
 | skip h hn ih=>exact .skip ih hn
 | step h T i z hk ha ih=>exact .step ih T i z hk ha
theorem Tick.moves (h : Tick B N Y0 j Y s) : Y.moves = Y0.moves + s:=by
 induction h with
 | zero=>rfl
 | skip h hn ih=>exact ih
 | step h T i z hk ha ih =>
  show _ + 1 = _
  rw [ih]
  omega
end
end
section
open Go.RowKit
structure FnL (W w : World) (l : List Thing) (B : YB) (N : Nat) (Yf : Nat → Yd) (n : Nat) (Q b μ0 : Nat) (Y : Yd) (J : Nat → Nat) (j s : Nat) (Yg : Nat → Yd) (l0 : List Thing) (J0 : Nat → Nat) : Prop where
 yd : YdL W w l B N Y J (n + s)
 tr : YTr B N Yg (n + s)
 at' : Yg (n + s) = Y
 same : ∀ i,i ≤ n → Yg i = Yf i
 tick : Tick B N (Yf n) j Y s
 fin : ∃ μ,s + μ ≤ μ0 ∧ FinM (plOf B N) B.T Q b Y μ
 go : YGo (Yf n) Y l0 l J0 J
section
variable {W w w' : World} {l l' l0 : List Thing} {B : YB} {N n Q b μ0 j s : Nat} {Yf Yg : Nat → Yd} {Y : Yd} {J J' J0 : Nat → Nat}
theorem FnL.later (h : FnL W w l B N Yf n Q b μ0 Y J j s Yg l0 J0) (e : Below w.heap.size w w') : FnL W w' l B N Yf n Q b μ0 Y J j s Yg l0 J0:=⟨h.yd.later e,h.tr,h.at',h.same,h.tick,h.fin,h.go⟩
theorem FnL.start (h : YdL W w l B N (Yf n) J n) (ht : YTr B N Yf n) (hf : FinM (plOf B N) B.T Q b (Yf n) μ0) : FnL W w l B N Yf n Q b μ0 (Yf n) J 0 0 Yf l J :=
 ⟨h,ht,rfl,fun _ _=>rfl,.zero,⟨μ0,by omega,hf⟩,YGo.refl _ _ _⟩
theorem FnL.few (h : FnL W w l B N Yf n Q b μ0 Y J j s Yg l0 J0) : s ≤ μ0:=by obtain ⟨μ,h1,_⟩:=h.fin; omega
theorem FnL.skip (h : FnL W w l B N Yf n Q b μ0 Y J j s Yg l0 J0) {i r : Nat} (hj : j = r * B.T + i) (hi : i < B.T) (hn : Y.ts[i]? = some none) : FnL W w l B N Yf n Q b μ0 Y J (j + 1) s Yg l0 J0 :=
 ⟨h.yd,h.tr,h.at',h.same,.skip h.tick (by rw [hj,Nat.mul_comm r B.T,Nat.mul_add_mod,Nat.mod_eq_of_lt hi]; exact hn),h.fin,h.go⟩
theorem FnL.step (h : FnL W w l B N Yf n Q b μ0 Y J j s Yg l0 J0) {i r : Nat} (hj : j = r * B.T + i) (hi : i < B.T) (h1 : Q ≤ b) (h2 : B.T * (4 * N + 10) ≤ b) (hn : n + μ0 < 1000000) {T : Wk} {q : Nat} {z : Int} (hk : Y.ts[i]? = some (some (T,q))) (ha : T.ask Y.C z) (hl : YH W w' l' B (Y.step (plOf B N i) i T q z) J') (hg : YGo Y (Y.step (plOf B N i) i T q z) l l' J J') :
  ∃ Yg',FnL W w' l' B N Yf n Q b μ0 (Y.step (plOf B N i) i T q z) J' (j + 1) (s + 1) Yg' l0 J0:=by
 obtain ⟨μ,hμ,hF⟩:=h.fin
 have hlt:=h.yd.ok
 have hmv : YMv (plOf B N) Y (Y.step (plOf B N i) i T q z):=.step i T q z hk ha
 have hyd:=h.yd.next (by omega) hmv hl
 obtain ⟨μ',hμ',hF'⟩:=hF.step hlt (fun _=>rfl) (by omega) h1 h2 hk ha (fun j=>(h.yd.h.fit j).1) hyd.ok
 have hhow : YHow B N (Yg (n + s)) (Y.step (plOf B N i) i T q z):=by rw [h.at']; exact .step i T q z hk ha
 have htr:=h.tr.snoc hhow (by rw [h.at']; exact hmv) hyd.h.fit (by omega)
 refine ⟨fun k=>if k ≤ n + s then Yg k else Y.step (plOf B N i) i T q z,hyd,htr,if_neg (by omega),fun k hk=>?_, ?_,⟨μ',by omega,hF'⟩,h.go.trans hg⟩
 ·show (if k ≤ n + s then Yg k else _) = _
  rw [if_pos (by omega)]
  exact h.same k hk
 ·have e : i = j % B.T:=by rw [hj,Nat.mul_comm r B.T,Nat.mul_add_mod,Nat.mod_eq_of_lt hi]
  have:=Tick.step h.tick T q z (by rw [← e]; exact hk) ha
  rw [← e] at this
  exact this
end
def FinPost (W w : World) (l : List Thing) (B : YB) (N : Nat) (Yf : Nat → Yd) (n Q b μ0 : Nat) (J : Nat → Nat) (r : Ending) (w' : World) : Prop :=
 ∃ (s j : Nat) (l' : List Thing) (Y' : Yd) (J' : Nat → Nat) (Yg : Nat → Yd),r = .returned (i64 s) ∧ FnL W w' l' B N Yf n Q b μ0 Y' J' j s Yg l J ∧ ∀ k,k < B.T → Y'.ts[k]? = some none
theorem zGm {Y : Yd} {P : Pl} {k : Nat} {T : Wk} {i : Nat} {z : Int} {j : Nat} (hj : j ≠ k) : (Y.step P k T i z).ts[j]? = Y.ts[j]?:=by
 show (if _ then Y.ts.set k _ else Y.ts.set k _)[j]? = _
 split
 ·rw [List.getElem?_set_ne (fun e=>hj e.symm)]
 ·rw [List.getElem?_set_ne (fun e=>hj e.symm)]
theorem zIm (t s so d : Int) (w : World) : (Instr.field 26 (cf t s so d) 0).run Tryz.prog w = .ok (i64 t) w:=by
 simp [Instr.field,go_sem,asAgg]
theorem zIJ {W w : World} {l : List Thing} {B : YB} {N n Q b μ0 : Nat} {Yf : Nat → Yd} {J : Nat → Nat} (h : YdL W w l B N (Yf n) J n) (ht : YTr B N Yf n) (hf : FinM (plOf B N) B.T Q b (Yf n) μ0) (h1 : Q ≤ b) (h2 : B.T * (4 * N + 10) ≤ b) (hn : n + μ0 < 1000000) :
  Calls Tryz.prog 10 #[pt B.yb] w (FinPost W w l B N Yf n Q b μ0 J):=by
 have HF0:=zIo (FnL.start h ht hf)
 have HT:=zIo h.hT
 have hT64 : B.T ≤ 64:=by have:=h.cf.lay.t2; have:=h.hT; omega
 clear h ht hf
 go_enter Tryz.func10,Tryz.ntmps10
 go_wp2_with fail
 go_loopw [3,4] (fun sv bv wr => ∃ (r s : Nat) (bz : Bool) (lx : List Thing) (Y : Yd) (Jx : Nat → Nat) (Yg : Nat → Yd),sv = .int .i64 s ∧ bv = .bool bz ∧ Hid (FnL W wr lx B N Yf n Q b μ0 Y Jx (r * B.T) s Yg l J) ∧ Hid (bz = false → ∀ k,k < B.T → Y.ts[k]? = some none)) (fun sv bv _=>2 * (μ0 - (RowKit.intOf sv).toNat) + (match bv with | .bool true=>1 | _=>0))
 case atStart=>exact ⟨0,0,true,_,_,_,_,rfl,rfl,(by rw [Nat.zero_mul]; exact HF0),zIo (fun h=>by cases h)⟩
 case round =>
  clear HF0
  obtain ⟨r,s,bz,lx,Y,Jx,Yg,rfl,rfl,HF,HZ⟩:=hrel
  cases bz with
  | false =>
   go_wp2_with fail
   go_ret
   exact ⟨s,_,lx,Y,Jx,Yg,rfl,HF.out,HZ.out trivial⟩
  | true =>
   obtain ⟨v,vd,X,hA⟩:=HF.out.yd.h
   have HA:=zIo hA
   clear hA HZ
   go_wp2_with fail
   refine (zBv HA.out).mono ?_
   rintro r2 w2 ⟨rfl,hb⟩
   have HF2:=zIo (HF.out.later hb)
   have HS0 : Hid (s ≤ s):=zIo (Nat.le_refl _)
   clear hb HA HF
   have hfl:=zIm B.t B.s B.so B.d w2
   go_wp2_with fail
   clear hfl
   go_loopw [3,4,10] (fun sv bv iv wx => ∃ (s' i : Nat) (bz : Bool) (ly : List Thing) (Y : Yd) (Jy : Nat → Nat) (Yg : Nat → Yd),i ≤ B.T ∧ s ≤ s' ∧ sv = .int .i64 s' ∧ bv = .bool bz ∧ iv = .int .i64 i ∧ Hid (FnL W wx ly B N Yf n Q b μ0 Y Jy (r * B.T + i) s' Yg l J) ∧ Hid (bz = true → s < s') ∧ Hid (bz = false → ∀ k,k < i → Y.ts[k]? = some none)) (fun _ _ iv _=>B.T - (RowKit.intOf iv).toNat)
   case atStart=>exact ⟨s,0,false,_,_,_,_,Nat.zero_le _,Nat.le_refl _,rfl,rfl,rfl,HF2,zIo (fun h=>by cases h),zIo (fun _ k hk=>absurd hk (Nat.not_lt_zero _))⟩
   case round =>
    clear HF2
    obtain ⟨s',i,bz,ly,Y,Jy,Yg,hi,hs,rfl,rfl,rfl,HF,HU,HV⟩:=hrel
    rcases Nat.lt_or_ge i B.T with hlt | hge
    ·have hi' : (i : Int) < B.t:=by have:=HT.out; omega
     go_wp2_with fail
     refine (zDx HF.out.yd.cf HF.out.yd.h HF.out.yd.ok (by have:=HF.out.few; omega) i).mono ?_
     rintro r2 w3 ⟨bs,l3,J3,Y3,rfl,hl3,hg3,h3⟩
     have HL:=zIo hl3
     have HG:=zIo hg3
     have H3:=zIo h3
     clear hl3 hg3 h3
     cases bs with
     | false =>
      have HI : Hid (Y.ts[i]? = some none):=zIo (by
       rcases H3.out with ⟨_,_,h5⟩ | ⟨h4,_⟩
       ·cases hq : Y.ts[i]? with
        | none =>
         rw [List.getElem?_eq_none_iff] at hq
         have:=HF.out.yd.ok.len
         omega
        | some a =>
         cases a with
         | none=>rfl
         | some a=>exact absurd hq (h5 i rfl a)
       ·cases h4)
      have HF3 : Hid (FnL W w3 l3 B N Yf n Q b μ0 Y J3 (r * B.T + (i + 1)) s' Yg l J):=zIo (by
       rcases H3.out with ⟨_,h4,_⟩ | ⟨h4,_⟩
       ·have hL:=HL.out
        have hG:=HG.out
        rw [h4] at hL hG
        have h:=HF.out.skip rfl hlt HI.out
        exact ⟨⟨hL,h.yd.ok,h.yd.len,h.yd.cf,h.yd.hT⟩,h.tr,h.at',h.same,h.tick,h.fin,h.go.trans hG⟩
       ·cases h4)
      clear HF HL HG H3
      cases bz with
      | true =>
       go_wp2_with fail
       go_roundw
       case rel=>exact ⟨s',i + 1,true,l3,Y,J3,Yg,by have:=HT.out; omega,hs,rfl,rfl,by go_num,HF3,zIo (fun _=>HU.out trivial),zIo (fun h=>by cases h)⟩
       case measure=>have:=HT.out; first | omega | (simp [RowKit.intOf]; done) | (simp [RowKit.intOf]; omega)
      | false =>
       go_wp2_with fail
       refine (HF3.out.yd.busy i false ⟨_,HI.out,rfl⟩).mono ?_
       rintro r2 w4 ⟨rfl,rfl⟩
       go_wp2_with fail
       go_roundw
       case rel=>exact ⟨s',i + 1,false,l3,Y,J3,Yg,by have:=HT.out; omega,hs,rfl,rfl,by go_num,HF3,zIo (fun h=>by cases h),zIo (fun _ k hk=>by
        by_cases e : k = i
        ·rw [e]; exact HI.out
        ·exact HV.out trivial k (by omega))⟩
       case measure=>have:=HT.out; first | omega | (simp [RowKit.intOf]; done) | (simp [RowKit.intOf]; omega)
     | true =>
      obtain ⟨T,q,z,HK,Yg3,HF3⟩ : ∃ (T : Wk) (q : Nat) (z : Int),Hid (Y.ts[i]? = some (some (T,q))) ∧ ∃ Yg3,Hid (FnL W w3 l3 B N Yf n Q b μ0 (Y.step (plOf B N i) i T q z) J3 (r * B.T + (i + 1)) (s' + 1) Yg3 l J):=by
       rcases H3.out with ⟨h4,_⟩ | ⟨_,k,T,q,z,h5,h6,h7,h8⟩
       ·cases h4
       ·obtain rfl : k = i:=by omega
        have hL:=HL.out
        have hG:=HG.out
        rw [h8] at hL hG
        obtain ⟨Yg3,h9⟩:=HF.out.step rfl hlt h1 h2 hn h6 h7 hL hG
        exact ⟨T,q,z,zIo h6,Yg3,zIo h9⟩
      obtain ⟨a,HA1⟩ : ∃ a,Hid ((Y.step (plOf B N i) i T q z).ts[i]? = some a):=by
       cases hq : (Y.step (plOf B N i) i T q z).ts[i]? with
       | none =>
        rw [List.getElem?_eq_none_iff] at hq
        have:=HF3.out.yd.ok.len
        omega
       | some a=>exact ⟨a,zIo rfl⟩
      have HV3 : Hid (bz = false → ∀ k,k < i → (Y.step (plOf B N i) i T q z).ts[k]? = some none):=zIo (fun hb k hk=>by
       rw [zGm (by omega)]
       exact HV.out hb k hk)
      have hsb : s' < 1000000:=by have:=HF3.out.few; omega
      generalize Y.step (plOf B N i) i T q z = Y4 at HF3 HA1 HV3
      clear HF HL HG H3 HV
      cases bz with
      | true =>
       go_wp2_with fail
       go_roundw
       case rel=>exact ⟨s' + 1,i + 1,true,l3,Y4,J3,Yg3,by have:=HT.out; omega,by omega,by go_num,rfl,by go_num,HF3,zIo (fun _=>by omega),zIo (fun h=>by cases h)⟩
       case measure=>have:=HT.out; first | omega | (simp [RowKit.intOf]; done) | (simp [RowKit.intOf]; omega)
      | false =>
       go_wp2_with fail
       refine (HF3.out.yd.busy i a.isSome ⟨_,HA1.out,rfl⟩).mono ?_
       rintro r2 w4 ⟨rfl,rfl⟩
       go_wp2_with fail
       go_roundw
       case rel=>exact ⟨s' + 1,i + 1,a.isSome,l3,Y4,J3,Yg3,by have:=HT.out; omega,by omega,by go_num,rfl,by go_num,HF3,zIo (fun _=>by omega),zIo (fun hz k hk=>by
        by_cases e : k = i
        ·rw [e,HA1.out]
         cases a with
         | none=>rfl
         | some a=>cases hz
        ·exact HV3.out trivial k (by omega))⟩
       case measure=>have:=HT.out; first | omega | (simp [RowKit.intOf]; done) | (simp [RowKit.intOf]; omega)
    ·obtain rfl : i = B.T:=by omega
     have hnn : ¬ (B.T : Int) < B.t:=by have:=HT.out; omega
     have hfew:=HF.out.few
     go_wp2_with fail
     go_roundw
     case rel=>exact ⟨r + 1,s',bz,ly,Y,Jy,Yg,rfl,rfl,(by rw [Nat.add_mul,Nat.one_mul]; exact HF),HV⟩
     case measure =>
      cases bz with
      | true =>
       have:=HU.out rfl
       simp [RowKit.intOf]
       omega
      | false =>
       simp [RowKit.intOf]
       omega
end
section
open Go.RowKit
theorem EncIs.yes {w' : World} {base : Nat} {t s so d : Int} {ms : List CM} {v : Value} {e : Int} (h : EncIs w' base t s so d ms v e) (hr : rightC t s so d = true) (hn : ms.length ≤ 65536) (hm : ∀ m ∈ ms,m.Right) : e = 0 ∧ Own8 w' base v ([t,s,so,d] ++ encs ms):=by
 cases h with
 | conf h=>rw [hr] at h; cases h
 | many _ h=>omega
 | arg _ _ h=>obtain ⟨m,h1,h2⟩:=h; exact absurd (hm m h1) h2
 | ok _ _ _ _ ho=>exact ⟨rfl,ho⟩
theorem zCI {a : Int} {l : List Int} (h0 : 0 ≤ a) (h1 : a ≤ 255) (hl : Byt l) : Byt (a :: l):=fun b hb=>by
 rcases List.mem_cons.1 hb with rfl | hb
 ·exact ⟨h0,h1⟩
 ·exact hl b hb
theorem zE3 {t s so d : Int} {ms : List CM} (hr : rightC t s so d = true) (hm : ∀ m ∈ ms,m.Right) : Byt ([t,s,so,d] ++ encs ms):=by
 have h:=of_decide_eq_true hr
 exact zCI (by omega) (by omega) (zCI (by omega) (by omega) (zCI (by omega) (by omega) (zCI (by omega) (by omega) (zDj hm))))
theorem DecIs.yes {l : List Int} {ms : List CM} {n e : Int} (h : DecIs l ms n e) (he : e = 0) : (∀ m ∈ ms,m.Good) ∧ ms.length ≤ 65536 ∧ l = encs ms:=by
 cases h with
 | ok _ h1 h2 h3=>exact ⟨h1,h2,h3⟩
 | form _ _ _ _ _ _ _=>exact absurd he (by decide)
 | many _ _ _ _ _ _ _=>exact absurd he (by decide)
theorem DecPost.yes {w' : World} {base : Nat} {l : List Int} {v : Value} {n e t s so d : Int} {ms : List CM} (h : DecPost w' base l v n e) (hl : l = t :: s :: so :: d :: encs ms) (hr : rightC t s so d = true) (hg : ∀ m ∈ ms,m.Good) (hn : ms.length ≤ 65536) :
  e = 0 ∧ n = (l.length : Int) ∧ ∃ A cp,v = scV t s so d (.slice A ms.length cp) ∧ w'.ownsRow base 50 7 (.slice A ms.length cp) ms.length (flatM ms):=by
 cases h with
 | short h =>
  rw [hl] at h
  simp at h
  omega
 | conf t' s' so' d' r' h hr' =>
  rw [hl] at h
  simp only [List.cons.injEq] at h
  obtain ⟨rfl,rfl,rfl,rfl,_⟩:=h
  rw [hr] at hr'
  cases hr'
 | bad t' s' so' d' r' n' e' h hr' hd he =>
  rw [hl] at h
  simp only [List.cons.injEq] at h
  obtain ⟨rfl,rfl,rfl,rfl,rfl⟩:=h
  exact absurd (hd.of hg hn).2.2 he
 | ok t' s' so' d' r' ms' A cp h hr' hd ho =>
  rw [hl] at h
  simp only [List.cons.injEq] at h
  obtain ⟨rfl,rfl,rfl,rfl,rfl⟩:=h
  obtain ⟨rfl,_⟩:=hd.of hg hn
  exact ⟨rfl,rfl,A,cp,rfl,ho⟩
end
section
open Go.RowKit
def lookF (B : YB) (N : Nat) (z : Nat → Int) (Y0 : Yd) : Nat → Yd × Nat
 | 0=>(Y0,0)
 | j + 1=>match (lookF B N z Y0 j).1.ts[j % B.T]? with
  | some (some (T,i))=>((lookF B N z Y0 j).1.step (plOf B N (j % B.T)) (j % B.T) T i (z j),(lookF B N z Y0 j).2 + 1)
  | _=>lookF B N z Y0 j
theorem Tick.look {B : YB} {N : Nat} {Y0 Y : Yd} {j s : Nat} {z : Nat → Int} (h : Tick B N Y0 j Y s)
  (hz : ∀ (j : Nat) (T : Wk) (i : Nat) (z' : Int),(lookF B N z Y0 j).1.ts[j % B.T]? = some (some (T,i)) → T.ask (lookF B N z Y0 j).1.C z' → T.step (plOf B N (j % B.T)) (lookF B N z Y0 j).1.C (lookF B N z Y0 j).1.now z' = T.step (plOf B N (j % B.T)) (lookF B N z Y0 j).1.C (lookF B N z Y0 j).1.now (z j)) :
  lookF B N z Y0 j = (Y,s):=by
 induction h with
 | zero=>rfl
 | @skip j Y s h hn ih =>
  show (match (lookF B N z Y0 j).1.ts[j % B.T]? with
   | some (some (T,i))=>((lookF B N z Y0 j).1.step (plOf B N (j % B.T)) (j % B.T) T i (z j),(lookF B N z Y0 j).2 + 1)
   | _=>lookF B N z Y0 j) = _
  rw [ih]
  simp only
  rw [hn]
 | @step j Y s h T i z' hk ha ih =>
  have e:=hz j T i z' (by rw [ih]; exact hk) (by rw [ih]; exact ha)
  show (match (lookF B N z Y0 j).1.ts[j % B.T]? with
   | some (some (T,i))=>((lookF B N z Y0 j).1.step (plOf B N (j % B.T)) (j % B.T) T i (z j),(lookF B N z Y0 j).2 + 1)
   | _=>lookF B N z Y0 j) = _
  rw [ih] at e ⊢
  simp only at e ⊢
  rw [hk]
  simp only
  unfold Yd.step
  rw [e]
theorem zDo {B : YB} {N : Nat} {Y0 : Yd} {z : Nat → Int} {q : Nat} (h : ∀ a,a ∈ (lookF B N z Y0 q).1.ts → a = none) : ∀ k,lookF B N z Y0 (q + k) = lookF B N z Y0 q
 | 0=>rfl
 | k + 1=>by
  have ih:=zDo h k
  show (match (lookF B N z Y0 (q + k)).1.ts[(q + k) % B.T]? with
   | some (some (T,i))=>((lookF B N z Y0 (q + k)).1.step (plOf B N ((q + k) % B.T)) ((q + k) % B.T) T i (z (q + k)),(lookF B N z Y0 (q + k)).2 + 1)
   | _=>lookF B N z Y0 (q + k)) = _
  rw [ih]
  cases hq : (lookF B N z Y0 q).1.ts[(q + k) % B.T]? with
  | none=>rfl
  | some a =>
   have:=h a (List.mem_of_getElem? hq)
   subst this
   rfl
theorem FinM.mono {pl : Nat → Pl} {t put b μ μ' : Nat} {Y : Yd} (h : FinM pl t put b Y μ) (hm : μ ≤ μ') : FinM pl t put b Y μ':=by
 obtain ⟨s,tu,h1,h2⟩:=h
 exact ⟨s,tu,h1,Nat.le_trans h2 hm⟩
theorem zGj (w : Nat) : updN (fun _=>0) w 0 = fun _=>0:=funext (fun k=>by unfold updN; split <;> rfl)
theorem YTr.books {B : YB} {N m Q : Nat} {Y : Nat → Yd} (h : YTr B N Y m) (hQ : B.s * (B.t + 1) + most B.t B.so B.d + 2 = (Q : Int)) : ∀ i,i ≤ m → Books (plOf B N) Q (Y i) (fun _=>0) (fun _=>0)
 | 0,_=>Books.none (fun k a hk=>by
  rw [h.zero] at hk
  have hk' : (List.replicate B.T (none : Option (Wk × Nat)))[k]? = some (some a):=hk
  rw [List.getElem?_replicate] at hk'
  split at hk' <;> cases hk')
 | i + 1,hi=>by
  have ih:=YTr.books h hQ i (by omega)
  have hok:=(h.all i (by omega)).ok
  have hw:=h.how i (by omega)
  generalize Y (i + 1) = Z at hw
  cases hw with
  | rest=>exact ih
  | call w take kd e x s hq he hk =>
   have h1:=ih.call (kd:=kd) (e:=e) (x:=x) (s:=s) hq (OLeft.begun (who:=(w : Int)) (e:=e) (x:=x) (start:=s) (m:=(w : Int) * B.s) (nb:=2 * N + B.T) (h0:=2 * N) (hw:=2 * N + w) (C:=(Y i).C) take h.cf.lay hQ)
   rw [zGj] at h1
   exact h1
  | step w T i2 z hq ha =>
   obtain ⟨_,g2⟩:=ih.step hok (fun _=>rfl) hq ha (fun j=>(h.fit i (by omega) j).1) (dl:=1) (.inr (Nat.le_refl _))
   exact fun k T' i' hk=>(g2 k T' i' hk).again.more (Nat.zero_le _)
  | pass k hk=>exact ih
structure Fin4 (W w : World) (l : List Thing) (B : YB) (N : Nat) (Yf : Nat → Yd) (n : Nat) (J : Nat → Nat) (w' : World) (s j : Nat) (l' : List Thing) (Y' : Yd) (J' : Nat → Nat) (Yg : Nat → Yd) : Prop where
 yd : YdL W w' l' B N Y' J' (n + s)
 tr : YTr B N Yg (n + s)
 at' : Yg (n + s) = Y'
 same : ∀ i,i ≤ n → Yg i = Yf i
 tick : Tick B N (Yf n) j Y' s
 few : s ≤ 5924
 go : YGo (Yf n) Y' l l' J J'
 idle : ∀ k,k < B.T → Y'.ts[k]? = some none
theorem zBY {W w : World} {l : List Thing} {B : YB} {N n : Nat} {Yf : Nat → Yd} {J : Nat → Nat} (h : YdL W w l B N (Yf n) J n) (ht : YTr B N Yf n) (hn : n < 990000) (t4 : B.T ≤ 4) (n16 : N ≤ 16) (s4 : B.s ≤ 4) (d3 : B.d ≤ 3) :
  Calls Tryz.prog 10 #[pt B.yb] w fun r w' => ∃ (s j : Nat) (l' : List Thing) (Y' : Yd) (J' : Nat → Nat) (Yg : Nat → Yd),r = .returned (i64 s) ∧ Fin4 W w l B N Yf n J w' s j l' Y' J' Yg:=by
 have hT:=h.hT
 have hs1:=h.cf.lay.s1
 have ht1:=h.cf.lay.t1
 have hd0:=h.cf.d0
 have hm : 0 ≤ most B.t B.so B.d ∧ most B.t B.so B.d ≤ 6:=by
  unfold most
  repeat' split
  all_goals omega
 have hst : 0 ≤ B.s * (B.t + 1) ∧ B.s * (B.t + 1) ≤ 20:=⟨Int.mul_nonneg (by omega) (by omega),by
  have h1 : B.s * (B.t + 1) ≤ 4 * (B.t + 1):=Int.mul_le_mul_of_nonneg_right s4 (by omega)
  omega⟩
 obtain ⟨Q,hQ⟩ : ∃ Q : Nat,B.s * (B.t + 1) + most B.t B.so B.d + 2 = (Q : Int):=⟨(B.s * (B.t + 1) + most B.t B.so B.d + 2).toNat,by omega⟩
 have hbk:=ht.books hQ n (Nat.le_refl _)
 have hbu:=zIj h.ok
 have hf : FinM (plOf B N) B.T Q 296 (Yf n) 5924:=(FinM.of (t:=B.T) (b:=296) hbk).mono (by
  have h1 : busyN (Yf n) * (B.T * 296 + 1) ≤ 4 * (4 * 296 + 1):=Nat.mul_le_mul (by omega) (by omega)
  omega)
 have h2 : B.T * (4 * N + 10) ≤ 296:=Nat.le_trans (Nat.mul_le_mul t4 (show 4 * N + 10 ≤ 74 by omega)) (by decide)
 refine (zIJ h ht hf (by omega) h2 (by omega)).mono ?_
 rintro r w' ⟨s,j,l',Y',J',Yg,rfl,h3,h4⟩
 exact ⟨s,j,l',Y',J',Yg,rfl,h3.yd,h3.tr,h3.at',h3.same,h3.tick,h3.few,h3.go,h4⟩
theorem zGP {B : YB} {N : Nat} {Y Y' : Yd} {k : Nat} {e x a : Int} (h : PDo B N ⟨0,k,0,e,x,0,0⟩ Y Y' a) (hk : (k : Int) < B.t) (he : e = 0 ∨ e = 1) (hq : Y.ts[k]? = some Option.none) : a = 0 ∧ Y' = Y.call k 0 e x 0 (wkB B N k false e x 0):=by
 have ha : CM.asks ⟨0,k,0,e,x,0,0⟩:=⟨.inl rfl,he⟩
 cases h with
 | out h hw =>
  rcases hw with hw | hw | hw
  ·have hw' : (k : Int) < 0:=hw
   omega
  ·have hw' : B.t ≤ (k : Int):=hw
   omega
  ·exact absurd ha hw
 | busy k' a' h hw ha' hb =>
  have hw' : (k : Int) = k':=hw
  obtain rfl : k = k':=by omega
  rw [hq] at hb
  cases hb
 | call k' take h hw hk' he' hq' =>
  have hw' : (k : Int) = k':=hw
  obtain rfl : k = k':=by omega
  cases take with
  | false=>exact ⟨rfl,rfl⟩
  | true=>exact absurd (show (1 : Int) = 0 from hk') (by decide)
 | none h=>exact absurd (show (0 : Int) = 1 from h) (by decide)
 | step k' T i z h=>exact absurd h (by show ¬ (0 : Int) = 1; decide)
 | pass h=>exact absurd h (by show ¬ (0 : Int) = 2; decide)
 | still h=>exact absurd h (by show ¬ (0 : Int) = 2; decide)
 | other h0=>exact absurd rfl h0
end
section
open Go.RowKit
structure PBy (w : World) (l : List Int) (r : Ending) (w' : World) (T : Nat) (s so d : Int) (N : Nat) (ms : List CM) (W : World) (lx : List Thing) (yb ytb p c : Nat) (Yf : Nat → Yd) (An : List Int) (J : Nat → Nat) (g : Nat) : Prop where
 is : l = (T : Int) :: s :: so :: d :: encs ms
 good : ∀ m ∈ ms,m.Good
 few : ms.length ≤ 65536
 right : rightC T s so d = true
 lay : Lay T s N
 ret : r = .returned (.tuple #[pt yb,.slice (some ⟨g,0,none⟩) ms.length ms.length,i64 0])
 below : Below w.heap.size w W
 run : PRn W w' lx ⟨yb,ytb,p,c,T,s,so,d,T⟩ N ms Yf An J g
theorem zFS (A : Option Addr) (l : List Int) (cap : Nat) (w : World) (h : IsAt w A (l.map u8)) (hb : Byt l) (hc : l.length ≤ cap) (hf : l.length ≤ 1000000) :
  Calls Tryz.prog 14 #[.slice A l.length cap] w fun r w' =>
   (∃ w1 v n e,DecPost w1 w.heap.size l v n e ∧ e ≠ 0 ∧ r = .returned (.tuple #[.pointer none,.slice none 0 0,i64 e]) ∧ Below w.heap.size w w') ∨
   (∃ T s so d N ms W lx yb ytb p c Yf An J g,PBy w l r w' T s so d N ms W lx yb ytb p c Yf An J g):=by
 have HD:=zIo (zE4 A l cap w h hb hc hf)
 clear h hb hc hf
 go_enter Tryz.func14,Tryz.ntmps14
 go_wp2_with fail
 refine HD.out.mono ?_
 rintro r w2 ⟨v,n,e,rfl,hb2,hD⟩
 have HB2:=zIo hb2
 clear hb2 HD
 cases hD with
 | short h =>
  go_wp2_with fail
  exact bodyPost_ret (v:=.tuple #[.pointer none,.slice none 0 0,i64 3]) (by simp [results,Tryz.results14,go_sem]) rfl (.inl ⟨w2,_,_,3,.short h,by decide,rfl,zAA HB2.out _⟩)
 | conf t s so d r h hr =>
  have H:=zIo (And.intro h hr)
  clear h hr
  go_wp2_with fail
  exact bodyPost_ret (v:=.tuple #[.pointer none,.slice none 0 0,i64 1]) (by simp [results,Tryz.results14,go_sem]) rfl (.inl ⟨w2,_,_,1,.conf t s so d r H.out.1 H.out.2,by decide,rfl,zAA HB2.out _⟩)
 | bad t s so d r n e h hr hd he =>
  have H:=zIo (And.intro h (And.intro hr hd))
  have e0 : (e == 0) = false:=beq_false_of_ne he
  clear h hr hd
  go_wp2_with fail
  exact bodyPost_ret (v:=.tuple #[.pointer none,.slice none 0 0,i64 e]) (by simp [results,Tryz.results14,go_sem]) rfl (.inl ⟨w2,_,_,e,.bad t s so d r n e H.out.1 H.out.2.1 H.out.2.2 he,he,rfl,zAA HB2.out _⟩)
 | ok t s so d r ms A1 cp h hr hd ho =>
  obtain ⟨hg,hm,rfl⟩:=hd.yes rfl
  obtain ⟨T,N,rfl,hlay,o0,o1,d0,d1⟩:=zFf hr
  have H:=zIo (And.intro h (And.intro hr (And.intro hg (And.intro hm hlay))))
  have HI2:=zIo ((IsAt.own ho).later (zAA (Below.refl _ _) (.cells #[.int .i64 T,.int .i64 s,.int .i64 so,.int .i64 d,.slice A1 ms.length cp] 29)))
  have HB3:=zIo (zAA HB2.out (.cells #[.int .i64 T,.int .i64 s,.int .i64 so,.int .i64 d,.slice A1 ms.length cp] 29))
  have hm2 : ms.length < 900000:=by omega
  clear h hr hg hm hlay ho hd
  go_wp2_with fail
  refine (zDU T s so d N A1 cp ms _ HI2.out (fun m hm=>(H.out.2.2.1 m hm).2) hm2 H.out.2.2.2.2 o0 o1 d0 d1).mono ?_
  rintro r w4 ⟨W,lx,yb,ytb,p,c,Yf,An,J,g,rfl,hb,hP⟩
  have HZ:=zIo (zAE HB3.out hb)
  have HP:=zIo hP
  clear hb hP
  go_wp2_with fail
  exact bodyPost_ret (v:=.tuple #[pt yb,.slice (some ⟨g,0,none⟩) ms.length ms.length,i64 0]) (by simp [results,Tryz.results14,go_sem]) rfl (.inr ⟨T,s,so,d,N,ms,W,lx,yb,ytb,p,c,Yf,An,J,g,H.out.1,H.out.2.2.1,H.out.2.2.2.1,H.out.2.1,H.out.2.2.2.2,rfl,HZ.out,HP.out⟩)
end
section
open Go.RowKit
def BA : YB:=⟨0,0,0,0,(2 : Nat),2,0,0,2⟩
def YA : Yd:=((yd0 4 2).call 0 0 1 5 0 (wkB BA 4 0 false 1 5 0)).call 1 0 0 6 0 (wkB BA 4 1 false 0 6 0)
theorem lA_8 : (lookF BA 4 (fun _=>0) YA 8).1.ts = [none,none] ∧ (lookF BA 4 (fun _=>0) YA 8).2 = 8 ∧ (lookF BA 4 (fun _=>0) YA 8).1.moves = 10 ∧ ∃ d0 d1,(lookF BA 4 (fun _=>0) YA 8).1.ds = [d0,d1] ∧ (d0.kd = 0 ∧ d0.e = 1 ∧ d0.x = 5 ∧ d0.ok = true ∧ d0.till = 8) ∧ (d1.kd = 0 ∧ d1.e = 0 ∧ d1.x = 6 ∧ d1.ok = true ∧ d1.till = 9) :=
 ⟨rfl,rfl,rfl,_,_,rfl,⟨rfl,rfl,rfl,rfl,rfl⟩,⟨rfl,rfl,rfl,rfl,rfl⟩⟩
theorem lA_ts : ∀ j,j < 8 → ∃ (a : Option (Wk × Nat)) (k : Pu) (i : Nat),(lookF BA 4 (fun _=>0) YA j).1.ts = [a,some (.pu k,i)] ∧ ∀ T i',a = some (T,i') → ∃ k',T = .pu k'
 | 0,_=>⟨_,_,_,rfl,fun T i' h=>by cases h; exact ⟨_,rfl⟩⟩
 | 1,_=>⟨_,_,_,rfl,fun T i' h=>by cases h; exact ⟨_,rfl⟩⟩
 | 2,_=>⟨_,_,_,rfl,fun T i' h=>by cases h; exact ⟨_,rfl⟩⟩
 | 3,_=>⟨_,_,_,rfl,fun T i' h=>by cases h; exact ⟨_,rfl⟩⟩
 | 4,_=>⟨_,_,_,rfl,fun T i' h=>by cases h; exact ⟨_,rfl⟩⟩
 | 5,_=>⟨_,_,_,rfl,fun T i' h=>by cases h; exact ⟨_,rfl⟩⟩
 | 6,_=>⟨_,_,_,rfl,fun T i' h=>by cases h; exact ⟨_,rfl⟩⟩
 | 7,_=>⟨_,_,_,rfl,fun T i' h=>by cases h⟩
 | j + 8,h=>by omega
theorem finA {j s : Nat} {Y : Yd} (h : Tick BA 4 YA j Y s) (hi : ∀ k,k < 2 → Y.ts[k]? = some none) : s = 8 ∧ Y = (lookF BA 4 (fun _=>0) YA 8).1:=by
 have h8 : ∀ a,a ∈ (lookF BA 4 (fun _=>0) YA 8).1.ts → a = none:=fun a ha=>by
  rw [lA_8.1] at ha
  simpa using ha
 have hst:=zDo h8
 have hl:=h.look (z:=fun _=>0) (fun j T i z' hk _=>by
  rcases Nat.lt_or_ge j 8 with hj | hj
  ·obtain ⟨a,k,q,e,hp⟩:=lA_ts j hj
   rw [e] at hk
   rcases (show j % 2 = 0 ∨ j % 2 = 1 by omega) with e2 | e2
   ·have hk' : [a,some (Wk.pu k,q)][j % 2]? = some (some (T,i)):=hk
    rw [e2] at hk'
    have hk2 : a = some (T,i):=by simpa using hk'
    obtain ⟨k',rfl⟩:=hp T i hk2
    rfl
   ·have hk' : [a,some (Wk.pu k,q)][j % 2]? = some (some (T,i)):=hk
    rw [e2] at hk'
    cases hk'
    rfl
  ·obtain ⟨k,rfl⟩ : ∃ k,j = 8 + k:=⟨j - 8,by omega⟩
   rw [hst] at hk
   have:=h8 _ (List.mem_of_getElem? hk)
   cases this)
 rcases Nat.lt_or_ge j 8 with hj | hj
 ·obtain ⟨a,k,q,e,_⟩:=lA_ts j hj
  rw [hl] at e
  have:=hi 1 (by decide)
  have e' : Y.ts = _:=e
  rw [e'] at this
  cases this
 ·obtain ⟨k,rfl⟩ : ∃ k,j = 8 + k:=⟨j - 8,by omega⟩
  rw [hst] at hl
  exact ⟨(congrArg Prod.snd hl).symm.trans lA_8.2.1,(congrArg Prod.fst hl).symm⟩
theorem zGV {B : YB} {N j s : Nat} {Y0 Y : Yd} (h : Tick B N Y0 j Y s) : Y.ds.length = Y0.ds.length:=by
 induction h with
 | zero=>rfl
 | skip h hn ih=>exact ih
 | @step j Y s h T i z hk ha ih =>
  rw [← ih]
  show (if _ then Y.ds else Y.ds.modify i _).length = _
  split
  ·rfl
  ·rw [List.length_modify]
theorem yA_of {yb ytb p c : Nat} {Yf : Nat → Yd} {An : List Int} (h : PTr ⟨yb,ytb,p,c,(2 : Nat),2,0,0,2⟩ 4 [⟨0,0,0,1,5,0,0⟩,⟨0,1,0,0,6,0,0⟩] Yf An) : Yf 2 = YA:=by
 obtain ⟨a,ha⟩ : ∃ a,An[0]? = some a:=⟨_,List.getElem?_eq_getElem (by rw [h.len]; decide)⟩
 obtain ⟨a',ha'⟩ : ∃ a,An[1]? = some a:=⟨_,List.getElem?_eq_getElem (by rw [h.len]; decide)⟩
 have h1:=h.at' 0 _ a rfl ha
 have h2:=h.at' 1 _ a' rfl ha'
 have hz : Yf 0 = yd0 4 2:=h.tr.zero
 rw [hz] at h1
 have e1:=(zGP (k:=0) (e:=1) (x:=5) h1 (by show (0 : Int) < (2 : Nat); decide) (.inr rfl) rfl).2
 have h2' : PDo _ 4 ⟨0,1,0,0,6,0,0⟩ (Yf 1) (Yf 2) a':=h2
 have e1' : Yf 1 = _:=e1
 rw [e1'] at h2'
 exact (zGP (k:=1) (e:=0) (x:=6) h2' (by show (1 : Int) < (2 : Nat); decide) (.inl rfl) rfl).2
theorem aliveV {B : YB} {Yg : Nat → Yd} {m : Nat} (hs : B.s = 2) (ht : YTr B 4 Yg m) {n0 : Nat} (hn0 : n0 < m) (h0 : Yg n0 = (lookF BA 4 (fun _=>0) YA 8).1) {T0 : Wk} (h1 : Yg (n0 + 1) = (Yg n0).call 0 1 0 0 0 T0) (hl : (Yg m).ds.length = 3) (hi : ∀ k,k < B.T → (Yg m).ts[k]? = some none) :
  ∃ d0 d1 d2,(Yg m).ds = [d0,d1,d2] ∧ d2.ok = true ∧ d2.v = 6:=by
 obtain ⟨_,_,hmv,d0,d1,hds,p0,p1⟩:=lA_8
 have hA:=(ht.all m (Nat.le_refl _)).ok
 have L0:=ht.later (a:=n0) (b:=m) (by omega) (Nat.le_refl _)
 have L1:=ht.later (a:=n0 + 1) (b:=m) (by omega) (Nat.le_refl _)
 have g0 : (Yg m).ds[0]? = some d0:=by
  obtain ⟨d',a,_,_,_,_,_,_,b⟩:=L0.deed 0 d0 (by rw [h0,hds]; rfl)
  rw [b (by omega)] at a
  exact a
 have g1 : (Yg m).ds[1]? = some d1:=by
  obtain ⟨d',a,_,_,_,_,_,_,b⟩:=L0.deed 1 d1 (by rw [h0,hds]; rfl)
  rw [b (by omega)] at a
  exact a
 obtain ⟨d2,g2,_,k2,e2,_,_,f2,_⟩:=L1.deed 2 ⟨(0 : Nat),1,0,0,0,(Yg n0).moves, -1,false,0,0,0⟩ (by
  rw [h1]
  show ((Yg n0).ds ++ [_])[2]? = _
  rw [h0,hds]
  rfl)
 have k2' : d2.kd = 1:=k2
 have e2' : d2.e = 0:=e2
 have f2' : d2.fr = 10:=by
  rw [f2]
  show ((Yg n0).moves : Int) = 10
  rw [h0,hmv]
  rfl
 have over : ∀ (i : Nat) (d : Dd),(Yg m).ds[i]? = some d → 0 ≤ d.till:=fun i d hd=>by
  obtain ⟨⟨w,_,hw,g3⟩,q0,_,g6⟩:=hA.deed i d hd
  by_cases e : d.till = -1
  ·obtain ⟨T,hT⟩:=g3 e
   rw [hi w hw] at hT
   cases hT
  ·have:=(g6 e).1
   omega
 have hall : ∀ (i : Nat) (d : Dd),(Yg m).ds[i]? = some d → (i = 0 ∧ d = d0) ∨ (i = 1 ∧ d = d1) ∨ (i = 2 ∧ d = d2):=fun i d hd=>by
  have hlt:=(List.getElem?_eq_some_iff.1 hd).1
  rw [hl] at hlt
  match i,hlt,hd with
  | 0,_,hd=>rw [g0] at hd; cases hd; exact .inl ⟨rfl,rfl⟩
  | 1,_,hd=>rw [g1] at hd; cases hd; exact .inr (.inl ⟨rfl,rfl⟩)
  | 2,_,hd=>rw [g2] at hd; cases hd; exact .inr (.inr ⟨rfl,rfl⟩)
 have hx : DOwn (Yg m).ds:=fun i i' d d' q q' r r' e=>by
  rcases hall i d q with ⟨rfl,rfl⟩ | ⟨rfl,rfl⟩ | ⟨rfl,rfl⟩ <;> rcases hall i' d' q' with ⟨rfl,rfl⟩ | ⟨rfl,rfl⟩ | ⟨rfl,rfl⟩ <;> omega
 have b0 : dBef d0 d2:=⟨by omega,by omega⟩
 have b1 : dBef d1 d2:=⟨by omega,by omega⟩
 have ok2 : d2.ok = true:=by
  cases hok : d2.ok with
  | true=>rfl
  | false =>
   obtain ⟨k,dk,q1,q2,q3,q4,q5⟩:=zD8 ht (fun g dg hg _=>over g dg hg) g2 k2' hok g1 p1.1 p1.2.2.2.1 b1
   rcases hall k dk q1 with ⟨_,rfl⟩ | ⟨_,rfl⟩ | ⟨_,rfl⟩
   ·omega
   ·omega
   ·rw [hok] at q3
    cases q3
 refine ⟨d0,d1,d2, ?_,ok2, ?_⟩
 ·refine List.ext_getElem? (fun i=>?_)
  rcases Nat.lt_or_ge i 3 with h | h
  ·match i,h with
   | 0,_=>exact g0
   | 1,_=>exact g1
   | 2,_=>exact g2
  ·rw [List.getElem?_eq_none (by omega),List.getElem?_eq_none (by exact h)]
 ·obtain ⟨i,d,q1,q2,_,q4,_⟩:=zFR ht g2 k2' ok2 (over 2 d2 g2)
  rcases hall i d q1 with ⟨rfl,rfl⟩ | ⟨rfl,rfl⟩ | ⟨_,rfl⟩
  ·exfalso
   refine zHV ht (by decide) hx g2 k2' ok2 (.inl e2') g0 p0.1 q4.symm g1 p1.1 p1.2.2.2.1 b1 (r := -1) ⟨.inl ⟨rfl,fun d hd hh=>?_⟩⟩ (.inl ⟨by decide,fun k dk hk _=>over k dk hk⟩) ?_
   ·obtain ⟨i,hi2⟩:=List.mem_iff_getElem?.1 hd
    have h1:=hh.1
    have h2:=hh.2.2
    rcases hall i d hi2 with ⟨_,rfl⟩ | ⟨_,rfl⟩ | ⟨_,rfl⟩ <;> omega
   ·unfold dNear
    rw [e2',if_pos p1.2.1]
    left
    omega
  ·omega
  ·omega
theorem zBs (w : World) : Calls Tryz.prog 4 #[] w fun r w'=>r = .returned (.bool true) ∧ Below w.heap.size w w':=by
 have hn1:=zAA (Below.refl w.heap.size w) (.cells (flatM [⟨0,0,0,1,5,0,0⟩,⟨0,1,0,0,6,0,0⟩]).toArray 50)
 have hn2:=zAA (Below.refl (w.alloc (.cells (flatM [⟨0,0,0,1,5,0,0⟩,⟨0,1,0,0,6,0,0⟩]).toArray 50)).heap.size _) (.cells #[.int .i64 2,.int .i64 2,.int .i64 0,.int .i64 0,.slice (some ⟨w.heap.size,0,none⟩) 2 2] 29)
 have hI : IsAt (w.alloc (.cells (flatM [⟨0,0,0,1,5,0,0⟩,⟨0,1,0,0,6,0,0⟩]).toArray 50)) (some ⟨w.heap.size,0,none⟩) (flatM [⟨0,0,0,1,5,0,0⟩,⟨0,1,0,0,6,0,0⟩]):=fun _=>⟨w.heap.size,0,rfl,by simp,fun j u hj=>by
  rw [Nat.zero_add]
  exact (IsObj.made w (flatM [⟨0,0,0,1,5,0,0⟩,⟨0,1,0,0,6,0,0⟩]) 50).at' j u hj⟩
 have HI:=zIo (hI.later hn2)
 have HB:=zIo (zAE hn1 hn2)
 clear hn1 hn2 hI
 have hg : ∀ m ∈ ([⟨0,0,0,1,5,0,0⟩,⟨0,1,0,0,6,0,0⟩] : List CM),m.Good:=fun m hm=>by
  simp only [List.mem_cons,List.not_mem_nil,or_false] at hm
  rcases hm with rfl | rfl
  ·exact ⟨.inl ⟨rfl,by decide,by decide,rfl,.inr rfl,.inl ⟨rfl,rfl⟩⟩,by decide,by decide⟩
  ·exact ⟨.inl ⟨rfl,by decide,by decide,rfl,.inl rfl,.inl ⟨rfl,rfl⟩⟩,by decide,by decide⟩
 have HG:=zIo hg
 clear hg
 go_enter Tryz.func4,Tryz.ntmps4
 go_wp2_with fail
 refine (zEz 2 2 0 0 (some ⟨w.heap.size,0,none⟩) 2 [⟨0,0,0,1,5,0,0⟩,⟨0,1,0,0,6,0,0⟩] _ HI.out (fun m hm=>(HG.out m hm).2) (by decide)).mono ?_
 rintro r w3 ⟨vE,eE,rfl,hb3,hE⟩
 have hR : rightC 2 2 0 0 = true:=by decide
 obtain ⟨rfl,ho⟩:=hE.yes hR (by decide) (fun m hm=>(HG.out m hm).1)
 obtain ⟨Ab,cpb,rfl⟩:=zAK ho
 have HB3:=zIo (zAE HB.out hb3)
 have HIB:=zIo (IsAt.own ho)
 have hcb:=zEN ho
 have HBY:=zIo (zE3 hR (fun m hm=>(HG.out m hm).1))
 have HRR:=zIo hR
 obtain ⟨lb,hlb⟩ : ∃ lb,[2,2,0,0] ++ encs [⟨0,0,0,1,5,0,0⟩,⟨0,1,0,0,6,0,0⟩] = lb:=⟨_,rfl⟩
 have hlen : lb.length ≤ 1000000:=by rw [← hlb]; decide
 rw [hlb] at hcb HIB HBY ⊢
 have HLB:=zIo hlb
 clear hb3 ho hE hR hlb HB HI
 go_wp2_with fail
 refine (zFS Ab lb cpb w3 HIB.out HBY.out hcb hlen).mono ?_
 rintro r w4 (⟨w5,v',n',e',hD',he',rfl,hb⟩ | ⟨T,s',so',d',N,ms',W,lx,yb,ytb,p,c,Yf,An,J,g,hP⟩)
 ·exact absurd (hD'.yes HLB.out.symm HRR.out HG.out (by decide)).1 he'
 obtain ⟨h1,h2,h3,h4,h5,rfl,h7,h8⟩:=hP
 have e1:=HLB.out.trans h1
 simp only [List.cons_append,List.nil_append,List.cons.injEq] at e1
 obtain ⟨e2,rfl,rfl,rfl,e6⟩:=e1
 obtain rfl : T = 2:=by omega
 obtain rfl : N = 4:=by have:=h5.eq; omega
 obtain rfl:=zEv HG.out h2 e6
 have HP:=zIo h8
 have HB4:=zIo (zAE HB3.out h7)
 clear h1 h2 h3 h4 h5 h7 h8 e6 e2 HB3 HIB HBY hcb hlen
 simp only [List.length_cons,List.length_nil]
 go_wp2_with fail
 refine (zBY (n:=2) HP.out.yd HP.out.tr.tr (by decide) (by show 2 ≤ 4; decide) (by decide) (by show (2 : Int) ≤ 4; decide) (by show (0 : Int) ≤ 3; decide)).mono ?_
 rintro r w6 ⟨s,j,l',Y',J',Yg,rfl,hF⟩
 obtain ⟨hs,hY8⟩:=finA (j:=j) (s:=s) (Y:=Y') (by have h:=hF.tick.like (B':=BA) ⟨rfl,rfl,rfl,rfl,rfl⟩; rw [yA_of HP.out.tr] at h; exact h) (fun k hk=>hF.idle k hk)
 subst hs
 have HF:=zIo hF
 have HY8:=zIo hY8
 clear hF hY8 HP
 go_wp2_with fail
 refine (HF.out.yd.call (by decide) 0 (by show 0 < 2; decide) true (kd:=1) rfl 0 0 0 (.inl rfl) (by decide) (by decide)).mono ?_
 rintro r w7 ⟨l7,J7,Y7,hd7,hg7,h7⟩
 rcases h7 with ⟨_,_,a,ha⟩ | ⟨rfl,hq,rfl⟩
 ·have:=HF.out.idle 0 (by show 0 < 2; decide)
  rw [this] at ha
  cases ha
 have htr7:=HF.out.tr.callN HF.out.at' (k:=0) true (kd:=1) (e:=0) (x:=0) (s:=0) rfl (.inl rfl) (by decide) (by decide) hq (by decide)
 have HT7:=zIo htr7
 have HD7:=zIo hd7
 clear htr7 hd7 hg7 hq
 go_wp2_with fail
 refine (zBY (n:=11) (Yf:=fun i=>if i ≤ 2 + 8 then Yg i else Y'.call 0 1 0 0 0 (wkB ⟨yb,ytb,p,c,(2 : Nat),2,0,0,2⟩ 4 0 true 0 0 0)) HD7.out HT7.out (by decide) (by show 2 ≤ 4; decide) (by decide) (by show (2 : Int) ≤ 4; decide) (by show (0 : Int) ≤ 3; decide)).mono ?_
 rintro r w8 ⟨s2,j2,l8,Y8,J8,Yg8,rfl,hF8⟩
 have hlen8 : (Yg8 (11 + s2)).ds.length = 3:=by
  rw [hF8.at',zGV hF8.tick]
  show (Y'.ds ++ [_]).length = 3
  rw [HY8.out]
  obtain ⟨_,_,_,d0,d1,hds,_⟩:=lA_8
  rw [hds]
  rfl
 obtain ⟨d0,d1,d2,hds,hok,hv⟩:=aliveV (n0:=10) rfl hF8.tr (by omega) (by rw [hF8.same 10 (by decide)]; show (if 10 ≤ 2 + 8 then Yg 10 else _) = _; rw [if_pos (by decide), ← HY8.out]; exact HF.out.at') (by
  rw [hF8.same 11 (by decide),hF8.same 10 (by decide)]
  show (if 11 ≤ 2 + 8 then _ else _) = Yd.call (if 10 ≤ 2 + 8 then Yg 10 else _) _ _ _ _ _ _
  rw [if_neg (by decide),if_pos (by decide)]
  have e:=HF.out.at'
  rw [show Yg 10 = Y' from e]) hlen8 (fun k hk=>by rw [hF8.at']; exact hF8.idle k hk)
 rw [hF8.at'] at hds
 have HF8:=zIo hF8
 have HV:=zIo (And.intro hds (And.intro hok hv))
 have hdl : Y8.ds.length = 3:=by rw [hds]; rfl
 clear hF8 hlen8 hds hok hv HD7 HT7 HF HY8
 go_wp2_with fail
 refine (HF8.out.yd.deeds (by have:=HF8.out.few; omega)).mono ?_
 rintro r w9 ⟨v9,rfl,hrow,hb9⟩
 obtain ⟨A9,cp9,rfl⟩:=zAK hrow
 have HZ:=zIo (zAE HB4.out (HF8.out.yd.later hb9).h.below)
 have hat : ∃ b9,A9 = some ⟨b9,0,none⟩ ∧ AtDd w9 b9 (2 * 11) d2:=by
  rcases hrow.2 with ⟨hv,h0⟩ | ⟨g9,cap',cur,hv,_⟩
  ·omega
  ·cases hv
   exact ⟨g9,rfl,AtDd.row hrow (by rw [HV.out.1]; rfl)⟩
 obtain ⟨b9,rfl,hat⟩:=hat
 have c7:=hat.c7
 have c8:=hat.c8
 rw [HV.out.2.1] at c7
 rw [HV.out.2.2] at c8
 clear hrow hb9 hat
 rw [hdl]
 clear hdl
 go_wp2_with fail
 go_ret
 exact ⟨rfl,HZ.out⟩
end
section
open Go.RowKit
theorem zIC {ds : List Dd} {i : Nat} {f : Dd → Dd} (hk : ∀ d,(f d).ask = d.ask) : (ds.modify i f).map Dd.ask = ds.map Dd.ask:=by
 refine List.ext_getElem? (fun j=>?_)
 rw [List.getElem?_map,List.getElem?_map]
 by_cases e : i = j
 ·subst e
  cases hd : ds[i]? with
  | none=>rw [List.getElem?_modify,hd]; rfl
  | some d=>rw [zAz hd]; exact congrArg some (hk d)
 ·rw [zBd e]
theorem zHT {Y : Yd} {P : Pl} {w i : Nat} {T : Wk} {z : Int} : (Y.step P w T i z).ds.map Dd.ask = Y.ds.map Dd.ask:=by
 show (if _ then Y.ds else Y.ds.modify i _).map Dd.ask = _
 split
 ·rfl
 ·have key : ∀ d : Dd,(d.over Y.moves (T.step P Y.C Y.now z)).ask = d.ask:=fun d=>by
   obtain ⟨s1,s2,s3,s4,s5,_,_⟩:=Dd.over_same d Y.moves (T.step P Y.C Y.now z)
   unfold Dd.ask
   rw [s1,s2,s3,s4,s5]
  exact zIC key
theorem zEq {B : YB} {N j s : Nat} {Y0 Y : Yd} (h : Tick B N Y0 j Y s) : Y.ds.map Dd.ask = Y0.ds.map Dd.ask:=by
 induction h with
 | zero=>rfl
 | skip h hn ih=>exact ih
 | step h T i z hk ha ih=>rw [← ih]; exact zHT
end
section
open Go.RowKit
theorem YOk.fitT {pl : Nat → Pl} {t n : Nat} {Y : Yd} (h : YOk pl t n Y) (ht : t ≤ 1000) (hn : n ≤ 1000000) {d : Dd} (hd : d ∈ Y.ds) : d.Fit:=by
 obtain ⟨i,hi⟩:=List.mem_iff_getElem?.1 hd
 obtain ⟨⟨w,hw,hwt,_⟩,f0,f1,f2⟩:=h.deed i d hi
 have hm:=h.most
 refine ⟨WalkArith.wf_i64 (by omega),by omega,by omega, ?_, ?_⟩
 ·by_cases e : d.till = -1
  ·omega
  ·have:=(f2 e).1
   omega
 ·by_cases e : d.till = -1
  ·omega
  ·have:=(f2 e).2
   omega
theorem zIT {w : World} {base cap : Nat} {A : Option Addr} {L : List Dd} (h : w.ownsRow base 61 11 (.slice A L.length cap) L.length (flatD L)) (hF : ∀ d ∈ L,d.Fit) : ∃ tb,IsDds w A L.length cap tb 0 L:=by
 have hc:=zEN h
 rcases h.2 with ⟨hv,h0⟩ | ⟨g,cap',cur,hv,_,hh,_⟩
 ·have hl : L = []:=List.eq_nil_of_length_eq_zero h0
  subst hl
  exact ⟨0,rfl,hc,fun hp=>absurd hp (Nat.lt_irrefl _),fun i d hd=>by cases hd⟩
 ·cases hv
  refine ⟨g,rfl,hc,fun _=>⟨rfl,(Array.getElem?_eq_some_iff.1 hh).1⟩,fun i d hd=>⟨?_,hF d (List.mem_of_getElem? hd)⟩⟩
  rw [Nat.zero_add]
  exact AtDd.row h hd
theorem YdL.deedsT {W w : World} {l : List Thing} {B : YB} {N n : Nat} {Y : Yd} {J : Nat → Nat} (h : YdL W w l B N Y J n) (hn : n ≤ 1000000) (hT : B.T ≤ 1000) : Calls Tryz.prog 12 #[pt B.yb] w fun r w' => ∃ A cp tb,r = .returned (.slice A Y.ds.length cp) ∧ Below w.heap.size w w' ∧ IsDds w' A Y.ds.length cp tb 0 Y.ds:=by
 refine (h.deeds hn).mono ?_
 rintro r w' ⟨v,rfl,hrow,hb⟩
 obtain ⟨A,cp,rfl⟩:=zAK hrow
 obtain ⟨tb,hd⟩:=zIT hrow (fun d hd=>h.ok.fitT hT hn hd)
 exact ⟨A,cp,tb,rfl,hb,hd⟩
theorem IsDds.one' {w : World} {a : Option Addr} {len cap tb off : Nat} {l : List Dd} (h : IsDds w a len cap tb off l) {i : Nat} {d : Dd} (hd : l[i]? = some d) : a = some ⟨tb,off,none⟩ ∧ tb < w.heap.size ∧ AtDd w tb (off + i * 11) d:=by
 have hi:=(List.getElem?_eq_some_iff.1 hd).1
 obtain ⟨h1,h2⟩:=h.2.2.1 (by rw [← h.1]; omega)
 exact ⟨h1,h2,(h.2.2.2 i d hd).1⟩
theorem IsDds.one0 {w : World} {a : Option Addr} {len cap tb : Nat} {l : List Dd} (h : IsDds w a len cap tb 0 l) {i : Nat} {d : Dd} (hd : l[i]? = some d) : a = some ⟨tb,0,none⟩ ∧ tb < w.heap.size ∧ AtDd w tb (i * 11) d:=by
 have:=h.one' hd
 rw [Nat.zero_add] at this
 exact this
end
section
open Go.RowKit
def bM (t so d : Int) : Int:=if so = 0 then 1 else if so = 1 then t + 1 else if so = 2 then 4 else if so = 3 then 1 else d + 2
structure BN (t s so d : Int) (N Q : Nat) : Prop where
 lay : Lay t s N
 d0 : 0 ≤ d
 d1 : d ≤ 100
 o0 : 0 ≤ so
 o1 : so ≤ 4
 q : s * (t + 1) + bM t so d + 2 = (Q : Int)
 qN : s * (t + 1) = (N : Int) + s
theorem BN.mk' {t s so d : Int} (t1 : 1 ≤ t) (t2 : t ≤ 64) (s1 : 1 ≤ s) (s2 : s ≤ 64) (d0 : 0 ≤ d) (d1 : d ≤ 100) (o0 : 0 ≤ so) (o1 : so ≤ 4) : ∃ N Q : Nat,BN t s so d N Q:=by
 have hl:=Lay.mk' t1 t2 s1 s2
 have hn:=hl.n1
 have hm : 0 ≤ bM t so d:=by
  unfold bM
  repeat' split
  all_goals omega
 have e : s * (t + 1) = t * s + s:=by rw [Int.mul_add,Int.mul_one,Int.mul_comm]
 exact ⟨(t * s).toNat,(s * (t + 1) + bM t so d + 2).toNat,by rw [Int.toNat_of_nonneg (by omega)]; exact hl,d0,d1,o0,o1,by omega,by omega⟩
section
variable {t s so d : Int} {N Q : Nat}
theorem BN.bd (h : BN t s so d N Q) : 1 ≤ t ∧ t ≤ 64 ∧ 1 ≤ s ∧ s ≤ 64 ∧ 1 ≤ N ∧ N ≤ 4096 ∧ Q ≤ 4300 ∧ 1 ≤ bM t so d ∧ bM t so d ≤ 102 ∧ 3 ≤ Q:=by
 have h1:=h.lay.t1; have h2:=h.lay.t2; have h3:=h.lay.s1; have h4:=h.lay.s2; have h5:=h.lay.n1; have h6:=h.lay.n2; have h7:=h.d0; have h8:=h.d1; have h9:=h.q; have h10:=h.qN
 have hm : 1 ≤ bM t so d ∧ bM t so d ≤ 102:=by
  unfold bM
  repeat' split
  all_goals omega
 omega
theorem zGD (h : BN t s so d N Q) (w : World) : Calls Tryz.prog 76 #[cf t s so d] w fun r w'=>r = .returned (i64 (bM t so d)) ∧ Below w.heap.size w w':=by
 have o0:=h.o0; have o1:=h.o1; have b:=h.bd; have t1:=h.lay.t1; have t2:=h.lay.t2; have d0:=h.d0; have d1:=h.d1
 clear h b
 rcases (by omega : so = 0 ∨ so = 1 ∨ so = 2 ∨ so = 3 ∨ so = 4) with rfl | rfl | rfl | rfl | rfl
 all_goals
  go_enter Tryz.func76,Tryz.ntmps76
  go_wp2
  go_ret
  exact ⟨rfl,zAA (Below.refl _ _) _⟩
theorem zE0 (h : BN t s so d N Q) (q : Int) (hq : s * (t + 1) = q) (w : World) :
  Calls Tryz.prog 75 #[cf t s so d] w fun r w'=>r = .returned (i64 q) ∧ Below w.heap.size w w':=by
 have b:=h.bd
 have hw : wrap64 (s * (t + 1)) = q:=by rw [hq]; have:=h.qN; unfold wrap64; omega
 have Hw:=zIo hw
 have t1:=h.lay.t1; have t2:=h.lay.t2
 clear hw hq h b
 go_enter Tryz.func75,Tryz.ntmps75
 go_wp2
 go_ret
 exact ⟨zBG Hw.out,zAA (Below.refl _ _) _⟩
theorem zIi (h : BN t s so d N Q) (w : World) :
  Calls Tryz.prog 56 #[cf t s so d] w fun r w'=>r = .returned (i64 Q) ∧ Below w.heap.size w w':=by
 obtain ⟨q,hq⟩ : ∃ q,s * (t + 1) = q:=⟨_,rfl⟩
 obtain ⟨z,hz⟩ : ∃ z,bM t so d = z:=⟨_,rfl⟩
 have b:=h.bd
 have hQ:=h.q
 have hqN:=h.qN
 rw [hz] at b hQ
 rw [hq] at hQ hqN
 have e2 : IntKind.i64.wrap (IntKind.i64.wrap (q + z) + 2) = (Q : Int):=by have a:=IntWalk.i64_in (q + z) (by omega); rw [a,IntWalk.i64_in _ (by omega)]; omega
 have E2:=zIo e2
 have HC:=zIo (fun W=>zE0 h q hq W)
 have hm:=fun W=>zGD h W
 rw [hz] at hm
 have HM:=zIo hm
 clear hm e2 hQ hqN b hq hz h
 go_enter Tryz.func56,Tryz.ntmps56
 go_wp2_with fail
 refine zAN ((0,true) :: (2,true) :: (1,false) :: (3,false) :: (4,true) :: (5,true) :: (6,true) :: []) (by kernel_rfl) (by kernel_rfl) (by kernel_rfl) (by decide) (fun _ _ _ _ _ h=>h) (fun hHeld=>?_)
 repeat (first
  | (refine zAC (v := ?_) rfl ?_ ?_ ?_; rotate_left 1; rfl; (focus (intro wS hSw; have hk:=zAM hSw; go_simp; first | done | with_reducible rfl)); (try simp only [Act.put,qset]))
  | (refine zAB rfl ?_ ?_; rfl; (try simp only [Act.put,qset]))
  | (refine zAH rfl (fun K hK=>?_); go_simp; (try (first | (go_at_call 75; refine (HC.out _).mono ?_; rintro e w' ⟨rfl,hb'⟩) | (go_at_call 76; refine (HM.out _).mono ?_; rintro e w' ⟨rfl,hb'⟩))); (try go_wp2_with fail); refine hK.out _ _ ?_ ?_; (focus (first | exact zAE hHeld hb' | exact zAA hHeld _ | exact hHeld)); (try clear hb'); clear hHeld hK K; intro hHeld; (try simp only [Act.put,qset])))
 first | refine zAJ ?_ | skip
 go_wp2
 go_ret
 exact ⟨zBG E2.out,zAE (zAA (Below.refl _ _) _) hHeld⟩
theorem zHD (h : BN t s so d N Q) (w : World) :
  Calls Tryz.prog 42 #[cf t s so d] w fun r w'=>r = .returned (i64 Q) ∧ Below w.heap.size w w':=by
 go_enter Tryz.func42,Tryz.ntmps42
 go_wp2_with fail
 refine (zIi h _).mono ?_
 rintro r w1 ⟨rfl,hb⟩
 have HB:=zIo (zAE (zAA (Below.refl _ _) _) hb)
 clear hb
 go_wp2_with fail
 go_ret
 exact ⟨rfl,HB.out⟩
theorem zHy (h : BN t s so d N Q) (m G : Nat) (hm2 : m ≤ 1000000) (hG : (m + 1) * (4 * N + 10) = G) (w : World) :
  Calls Tryz.prog 43 #[cf t s so d,.int .i64 m] w fun r w'=>r = .returned (i64 G) ∧ Below w.heap.size w w':=by
 have b:=h.bd
 have hG2 : G ≤ 1000001 * 16394:=by rw [← hG]; exact Nat.mul_le_mul (by omega) (by omega)
 have e0 : ((m : Int) + 1) * (4 * (N : Int) + 10) = (G : Int):=by rw [← hG]; push_cast; rfl
 have e1 : wrap64 (((m : Int) + 1) * (4 * (N : Int) + 10)) = (G : Int):=by
  rw [e0]
  unfold wrap64
  omega
 have E1:=zIo e1
 have HC:=zIo (fun W=>zBX t s so d N W h.lay)
 have hN : N ≤ 4096:=by omega
 clear hG hG2 h e1 e0 b
 go_enter Tryz.func43,Tryz.ntmps43
 go_wp2_with fail
 refine (HC.out _).mono ?_
 rintro r w1 ⟨rfl,hb⟩
 have HB:=zIo (zAE (zAA (Below.refl _ _) _) hb)
 clear hb
 go_wp2_with fail
 go_ret
 exact ⟨zBG E1.out,HB.out⟩
def bL (N Q T : Nat) : Nat:=max Q ((T + 1) * (4 * N + 10))
theorem bL_le {t s so d : Int} {N Q T : Nat} (h : BN t s so d N Q) (hT : t = (T : Int)) : bL N Q T ≤ 65 * 16394:=by
 have b:=h.bd
 have h1 : (T + 1) * (4 * N + 10) ≤ 65 * 16394:=Nat.mul_le_mul (by omega) (by omega)
 unfold bL
 omega
theorem zHd (h : BN t s so d N Q) (T W' : Nat) (hT : t = (T : Int)) (hW : T * bL N Q T + 1 = W') (w : World) :
  Calls Tryz.prog 26 #[cf t s so d] w fun r w'=>r = .returned (i64 W') ∧ Below w.heap.size w w':=by
 have b:=h.bd
 have hb:=bL_le h hT
 subst hT
 obtain ⟨G,hG⟩ : ∃ G,(T + 1) * (4 * N + 10) = G:=⟨_,rfl⟩
 have HP:=zIo (fun W=>zHD h W)
 have HGT:=zIo (fun W=>zHy h T G (by omega) hG W)
 unfold bL at hW hb
 rw [hG] at hW hb
 have h64 : T * max Q G ≤ 64 * (65 * 16394):=Nat.mul_le_mul (by omega) hb
 obtain ⟨P,hP⟩ : ∃ P,T * max Q G = P:=⟨_,rfl⟩
 rw [hP] at h64 hW
 have E1:=zIo (fun (hh : Q ≤ G)=>show IntKind.i64.wrap ((T : Int) * (G : Int)) = (P : Int) from by rw [show (T : Int) * (G : Int) = (P : Int) from by rw [← hP,Nat.max_eq_right hh]; push_cast; rfl]; exact IntWalk.i64_in _ (by omega))
 have E2:=zIo (fun (hh : G ≤ Q)=>show IntKind.i64.wrap ((T : Int) * (Q : Int)) = (P : Int) from by rw [show (T : Int) * (Q : Int) = (P : Int) from by rw [← hP,Nat.max_eq_left hh]; push_cast; rfl]; exact IntWalk.i64_in _ (by omega))
 have E3 : Hid (IntKind.i64.wrap ((P : Int) + 1) = (W' : Int)):=by show _ = _; rw [IntWalk.i64_in _ (by omega)]; omega
 have E4:=zIo (show IntKind.i64.wrap ((T : Int) * max (Q : Int) (G : Int)) = (P : Int) from by rw [show (T : Int) * max (Q : Int) (G : Int) = (P : Int) from by rw [show max (Q : Int) (G : Int) = ((max Q G : Nat) : Int) by omega, ← hP]; exact (Int.natCast_mul T (max Q G)).symm]; exact IntWalk.i64_in _ (by omega))
 clear hG h hP b hb h64 hW
 go_enter Tryz.func26,Tryz.ntmps26
 go_wp2_with fail
 refine zAN ((0,true) :: (1,true) :: (2,true) :: (4,true) :: (5,true) :: (6,true) :: (3,false) :: (7,false) :: (8,true) :: (9,true) :: (10,true) :: (11,true) :: []) (by kernel_rfl) (by kernel_rfl) (by kernel_rfl) (by decide) (fun _ _ _ _ _ h=>h) (fun hHeld=>?_)
 repeat (first
  | (refine zAC (v := ?_) rfl ?_ ?_ ?_; rotate_left 1; rfl; (focus (intro wS hSw; have hk:=zAM hSw; go_simp; first | done | with_reducible rfl)); (try simp only [Act.put,qset]))
  | (refine zAB rfl ?_ ?_; rfl; (try simp only [Act.put,qset]))
  | (refine zAH rfl (fun K hK=>?_); go_simp; (try (first | (go_at_call 42; refine (HP.out _).mono ?_; rintro e w' ⟨rfl,hb'⟩) | (go_at_call 43; refine (HGT.out _).mono ?_; rintro e w' ⟨rfl,hb'⟩))); (try go_wp2_with fail); refine hK.out _ _ ?_ ?_; (focus (first | exact zAE hHeld hb' | exact zAA hHeld _ | exact hHeld)); (try clear hb'); clear hHeld hK K; intro hHeld; (try simp only [Act.put,qset])))
 first | refine zAJ ?_ | skip
 all_goals
  have HB:=zIo (zAE (zAA (Below.refl _ _) _) hHeld)
  clear hHeld
  go_wp2_with fail
  all_goals
   go_ret
   exact ⟨zBG (by first | (rw [E4.out]; exact E3.out) | (rw [E1.out (by omega)]; exact E3.out) | (rw [E2.out (by omega)]; exact E3.out)),HB.out⟩
end
end
section
open Go.RowKit
section
variable {pl : Nat → Pl} {t n N put b i : Nat} {Y : Yd} {E : List Int}
end
section
variable {W w w' : World} {l l' : List Thing} {B : YB} {Y Y' : Yd} {J J' : Nat → Nat} {n N : Nat}
theorem YdL.callIdle (h : YdL W w l B N Y J n) (hn : n < 1000000) (k : Nat) (hq : Y.ts[k]? = some none) (take : Bool) {kd : Int} (hkd : kdI take = kd) (e x s : Int) (he : e = 0 ∨ e = 1) (x0 : 0 ≤ x) (x1 : x ≤ 18446744073709551615) :
  Calls Tryz.prog 9 #[pt B.yb,i64 k,callV kd e x s] w fun r w'=>r = .returned (i64 0) ∧ ∃ l' J',YdL W w' l' B N (Y.call k kd e x s (wkB B N k take e x s)) J' (n + 1) ∧ YGo Y (Y.call k kd e x s (wkB B N k take e x s)) l l' J J':=by
 have hkT : k < B.T:=by have:=(List.getElem?_eq_some_iff.1 hq).1; have:=h.ok.len; omega
 refine (h.call hn k hkT take hkd e x s he x0 x1).mono ?_
 rintro r w' ⟨l',J',Y',h1,h2,⟨_,_,a,ha⟩ | ⟨rfl,_,rfl⟩⟩
 ·rw [hq] at ha
  cases ha
 ·exact ⟨rfl,l',J',h1,h2⟩
theorem YdL.turnRest (h : YdL W w l B N Y J n) {j : Nat} {A A' : Thing} (hr : Rest Y l J j A) (hl : Hold W w' (l.set j A')) : YdL W w' (l.set j A') B N Y J n ∧ Rest Y (l.set j A') J j A' :=
 ⟨⟨h.h.other hl (fun i C hi hf=>by rw [List.getElem?_set_ne (fun e=>by subst e; exact hf hr.free)]; exact hi),h.ok,h.len,h.cf,h.hT⟩,List.getElem?_set_self (List.getElem?_eq_some_iff.1 hr.at').1,hr.free⟩
theorem Rest.set {A : Thing} (h : Rest Y l J n A) {j : Nat} (hj : j ≠ n) (A' : Thing) : Rest Y (l.set j A') J n A:=⟨by rw [List.getElem?_set_ne hj]; exact h.at',h.free⟩
end
theorem zCa {u : Int} {T : Nat} (u0 : 0 ≤ u) (hT : 1 ≤ T) : ∃ k : Nat,k < T ∧ u.tmod T = (k : Int):=by
 refine ⟨(u % T).toNat, ?_, ?_⟩
 ·have:=Int.emod_nonneg u (show (T : Int) ≠ 0 by omega)
  have:=Int.emod_lt_of_pos u (show 0 < (T : Int) by omega)
  omega
 ·rw [Int.tmod_eq_emod_of_nonneg u0]
  have:=Int.emod_nonneg u (show (T : Int) ≠ 0 by omega)
  omega
end
section
open Go.RowKit
open Go.RowKit Go.Maps
structure MapTy (P : Program) (t kt et : TypeId) (kq : IntKind) : Prop where
 ht : P.underlying t = some (.map kt et)
 hk : P.underlying kt = some (.int kq)
 he : P.underlying et = some (.int .i64)
 hz : ∀ w,(zeroValue et).run P w = .ok (.int .i64 0) w
def IMap (P : Program) (kt et : TypeId) (kq : IntKind) (w : World) (b n : Nat) (F : Int → Int) (M : Int → Bool) : Prop :=
 ∃ D : DataW Unit,w.ownsMap P kt (plainElem P et) b n D ∧ ∀ k,(Lit.int kq k).wf = true → D.atKey (.int kq k) (.lit (.int .i64 0)) = .lit (.int .i64 (F k)) ∧ Maps.has D (.int kq k) = M k
section
variable {P : Program} {t kt et : TypeId} {kq : IntKind} {w w' : World} {b n : Nat} {F : Int → Int} {M : Int → Bool}
theorem IMap.lt (h : IMap P kt et kq w b n F M) : b < w.heap.size:=by
 obtain ⟨D,h,_⟩:=h
 exact h.lt
theorem IMap.made (w : World) (P : Program) (kt et : TypeId) (kq : IntKind) : IMap P kt et kq (w.alloc (.map #[] 0)) w.heap.size 0 (fun _=>0) (fun _=>false) :=
 ⟨.map [],World.ownsMap_made _ _ _ _,fun _ _=>⟨rfl,rfl⟩⟩
def putF (F : Int → Int) (k c : Int) : Int → Int:=fun z=>if z = k then c else F z
def putM (M : Int → Bool) (k : Int) : Int → Bool:=fun z=>decide (z = k) || M z
theorem IMap.store (ty : MapTy P t kt et kq) (h : IMap P kt et kq w b n F M) (hn : n < maxLen) {k c : Int} (hk : (Lit.int kq k).wf = true) (hc : (Lit.int .i64 c).wf = true) :
  ∃ w',(Instr.mapUpdate t (.map (some b)) (.int kq k) (.int .i64 c)).run P w = .ok () w' ∧ IMap P kt et kq w' b (n + 1) (putF F k c) (putM M k) ∧ w.grownBy w' (some b):=by
 obtain ⟨D,h,hD⟩:=h
 have K:=int_keyed ty.hk
 have key:=keyOf_int_mk ty.hk hk
 obtain ⟨w',hr,h1,h2⟩:=h.update K ty.ht hn key (plainElem_int ty.he hc)
 refine ⟨w',hr,⟨_,h1,fun z hz=>?_⟩,h2⟩
 by_cases e : z = k
 ·subst e
  rw [atKey_put_same h.isMap (K.key key),has_put_same h.isMap (K.key key)]
  exact ⟨by rw [putF,if_pos rfl],by rw [putM]; simp⟩
 ·have hne : Lit.int kq z ≠ Lit.int kq k:=fun hh=>e (by cases hh; rfl)
  rw [atKey_put_other hne,has_put_other hne]
  exact ⟨by rw [putF,if_neg e]; exact (hD z hz).1,by rw [putM,decide_eq_false e,Bool.false_or]; exact (hD z hz).2⟩
variable {ops : Array Oper} {rest : List Oper} {o : Oper} {a : Act} {Q : Exit → Act → World → Prop}
theorem zA3 (hg : o.guard = none) (m x : Operand) (t : TypeId) (hop : o.op = Op.lookup t m x false) (ty : MapTy P t kt et kq) (hm : a.eval m = .map (some b)) (h : IMap P kt et kq w b n F M) (k c : Int) (hx : a.eval x = .int kq k) (hk : (Lit.int kq k).wf = true) (hc : F k = c)
  (hK : wpList P ops Q rest (a.put o.dst (.int .i64 c)) w) : wpList P ops Q (o :: rest) a w:=by
 obtain ⟨D,h,hD⟩:=h
 refine wpList_lookup_own_int w hg m x t hop kt et .i64 (int_keyed ty.hk) ty.ht ty.he (ty.hz w) b n D hm h _ _ hx (keyOf_int_mk ty.hk hk) fun c' hc' _=>?_
 rw [(hD k hk).1,hc] at hc'
 cases hc'
 exact hK
theorem zF7 {K : Act → World → Prop} (m x v : Operand) (t : TypeId) (hop : o.op = Op.mapUpdate t m x v) (ty : MapTy P t kt et kq) (hm : a.eval m = .map (some b)) (h : IMap P kt et kq w b n F M) (hn : n < maxLen) (k c : Int) (hx : a.eval x = .int kq k) (hv : a.eval v = .int .i64 c)
  (hk : (Lit.int kq k).wf = true) (hc : (Lit.int .i64 c).wf = true) (hK : ∀ w',IMap P kt et kq w' b (n + 1) (putF F k c) (putM M k) → w.grownBy w' (some b) → K (a.put o.dst undef) w') : Oper.wp P o a w K Q:=by
 obtain ⟨w',hr,h1,h2⟩:=h.store ty hn hk hc
 unfold Oper.wp
 simp [execOp,hop,hm,hx,hv,hr,Result.andThen]
 exact hK w' h1 h2
theorem zBF (hg : o.guard = none) (m x v : Operand) (t : TypeId) (hop : o.op = Op.mapUpdate t m x v) (ty : MapTy P t kt et kq) (hm : a.eval m = .map (some b)) (h : IMap P kt et kq w b n F M) (hn : n < maxLen) (k c : Int) (hx : a.eval x = .int kq k) (hv : a.eval v = .int .i64 c)
  (hk : (Lit.int kq k).wf = true) (hc : (Lit.int .i64 c).wf = true) (hK : ∀ w',IMap P kt et kq w' b (n + 1) (putF F k c) (putM M k) → w.grownBy w' (some b) → wpList P ops Q rest (a.put o.dst undef) w') : wpList P ops Q (o :: rest) a w :=
 wpList_plain hg fun K' hK'=>zF7 m x v t hop ty hm h hn k c hx hv hk hc fun w' h1 h2=>hK' _ _ (hK w' h1 h2)
end
end
section
open Go.RowKit
open Go.RowKit Go.Maps
theorem zCD : MapTy Tryz.prog 39 41 3 .u64:=⟨Tryz.underlying39,Tryz.underlying41,Tryz.underlying3,Tryz.zeroValue3⟩
theorem zDT {a : Int} (h0 : -9223372036854775808 ≤ a) (h1 : a ≤ 9223372036854775807) : (Lit.int .i64 a).wf = true:=WalkArith.wf_i64 (by omega)
end
section
open Go.RowKit
open Go.RowKit Go.Maps
def tMap (base mb nn : Nat) (F : Int → Int) (M : Int → Bool) : Thing:=⟨fun w=>IMap Tryz.prog 41 3 .u64 w mb nn F M ∧ base ≤ mb,fun q=>q = mb⟩
theorem zGM (base mb nn : Nat) (F : Int → Int) (M : Int → Bool) : (tMap base mb nn F M).Ok base:=by
 refine ⟨fun w w' T h k hn=>?_,fun w i h hi=>?_⟩
 ·obtain ⟨⟨D,⟨es,clock,h1,h2⟩,hD⟩,hb⟩:=h
  have hlt : mb < w.heap.size:=World.ownsMap.lt ⟨es,clock,h1,h2⟩
  exact ⟨⟨D,⟨es,clock,(k.block mb hlt (hn mb rfl)).trans h1,h2⟩,hD⟩,hb⟩
 ·obtain ⟨h,hb⟩:=h
  have hi' : i = mb:=hi
  subst hi'
  exact ⟨hb,h.lt⟩
abbrev tVal (base : Nat) (A : Option Addr) (cp : Nat) (row : List Int) : Thing:=tRow base 41 1 (.slice A row.length cp) row.length (row.map (Value.int .u64))
theorem zEp (S : List Int) : ∀ u ∈ S.map (Value.int .u64),u.oneCell' = true:=by
 intro u hu
 rw [List.mem_map] at hu
 obtain ⟨i,_,rfl⟩:=hu
 rfl
theorem zHl {w : World} {base cp : Nat} {A : Option Addr} {row : List Int} (h : (tVal base A cp row).P w) : Src w 1 A row.length (row.map (Value.int .u64)):=by
 have h' : w.ownsRow base 41 1 (.slice A row.length cp) row.length (row.map (Value.int .u64)):=h
 rcases Nat.eq_zero_or_pos row.length with h0 | h0
 ·rw [h0,List.eq_nil_of_length_eq_zero h0]
  exact ⟨fun _=>rfl,rfl,fun ad had j u hj=>(by simp at hj),fun u hu=>(by simp at hu)⟩
 ·obtain ⟨g,cap,hv,_⟩:=zBp h' h0
  cases hv
  refine ⟨fun hh=>(by cases hh),h'.1,fun ad had j u hj=>?_,zEp row⟩
  cases had
  have hjl : j < row.length:=by have:=(List.getElem?_eq_some_iff.1 hj).1; rwa [List.length_map] at this
  rw [zBK,Nat.zero_add,h'.cellAt j (by omega)]
  exact hj
theorem zHJ {w : World} {base g n cp o m : Nat} {xs : List Value} (h : w.ownsRow base 41 1 (.slice (some ⟨g,0,none⟩) n cp) n xs) (h1 : ∀ u ∈ xs,u.oneCell' = true) (ho : o + m ≤ n) : Src w 1 (some ⟨g,o,none⟩) m ((xs.drop o).take m):=by
 have hl:=h.1
 refine ⟨(fun h=>by cases h),by rw [List.length_take,List.length_drop]; omega,fun ad had j u hj=>?_,fun u hu=>h1 u (List.mem_of_mem_drop (List.mem_of_mem_take hu))⟩
 cases had
 have hjm : j < m:=by
  have:=(List.getElem?_eq_some_iff.1 hj).1
  rw [List.length_take] at this
  omega
 rw [zBK,h.cellAt (o + j) (by omega)]
 rw [List.getElem?_take_of_lt hjm,List.getElem?_drop] at hj
 exact hj
theorem zDH (w : World) (base : Nat) (x : Int) (hb : base ≤ w.heap.size) : (w.alloc (.cells #[.int .u64 x] 41)).ownsRow base 41 1 (.slice (some ⟨w.heap.size,0,none⟩) 1 1) 1 [.int .u64 x] :=
 ⟨by simp,.inr ⟨w.heap.size,1,#[.int .u64 x],rfl,hb,heap_alloc_new w _,Nat.le_refl _,by unfold maxLen; omega,rfl,rfl⟩⟩
structure AlAt (W w : World) (l : List Thing) (B : YB) (N : Nat) (Y : Yd) (J : Nat → Nat) (n jr jf jm : Nat) (X : List (Nat × Nat × List Value)) (A : Option Addr) (cp : Nat) (row : List Int) (fb : Nat) (full : List Int) (mb nn : Nat) (F : Int → Int) (M : Int → Bool) : Prop where
 yd : YdL W w l B N Y J n
 rr : Rest Y l J jr (tVal W.heap.size A cp row)
 rf : Rest Y l J jf (tObj W.heap.size fb (full.map (Value.int .i64)))
 rm : Rest Y l J jm (tMap W.heap.size mb nn F M)
 rx : ∀ x ∈ X,Rest Y l J x.1 (tObj W.heap.size x.2.1 x.2.2) ∧ x.1 ≠ jr ∧ x.1 ≠ jf ∧ x.1 ≠ jm
 ne : jf ≠ jr ∧ jm ≠ jr ∧ jf ≠ jm
section
variable {W w w' w1 w2 : World} {l l' : List Thing} {B : YB} {N : Nat} {Y Y' : Yd} {J J' : Nat → Nat} {n n' jr jf jm : Nat} {X X' : List (Nat × Nat × List Value)} {A : Option Addr} {cp : Nat} {row row' : List Int} {fb : Nat} {full : List Int} {mb nn : Nat} {F : Int → Int} {M : Int → Bool}
theorem Rest.app2 {j : Nat} {A C : Thing} (h : Rest Y l J j A) : Rest Y (l ++ [C]) J j A:=⟨by rw [List.getElem?_append_left (List.getElem?_eq_some_iff.1 h.at').1]; exact h.at',h.free⟩
theorem Rest.lt2 {j : Nat} {A : Thing} (h : Rest Y l J j A) : j < l.length:=(List.getElem?_eq_some_iff.1 h.at').1
theorem AlAt.later (h : AlAt W w l B N Y J n jr jf jm X A cp row fb full mb nn F M) (k : Below w.heap.size w w') : AlAt W w' l B N Y J n jr jf jm X A cp row fb full mb nn F M:=⟨h.yd.later k,h.rr,h.rf,h.rm,h.rx,h.ne⟩
theorem AlAt.go (h : AlAt W w l B N Y J n jr jf jm X A cp row fb full mb nn F M) (hd : YdL W w' l' B N Y' J' n') (hg : YGo Y Y' l l' J J') : AlAt W w' l' B N Y' J' n' jr jf jm X A cp row fb full mb nn F M:=⟨hd,h.rr.go hg,h.rf.go hg,h.rm.go hg,fun x hx=>⟨(h.rx x hx).1.go hg,(h.rx x hx).2⟩,h.ne⟩
theorem AlAt.more (h : AlAt W w l B N Y J n jr jf jm X A cp row fb full mb nn F M) (e : Below w.heap.size w w') {b : Nat} {xs : List Value} (hO : IsObj w' b xs) (hb : w.heap.size ≤ b) : AlAt W w' (l ++ [tObj W.heap.size b xs]) B N Y J n jr jf jm ((l.length,b,xs) :: X) A cp row fb full mb nn F M:=by
 refine ⟨h.yd.more e (zAP _ _ _) ⟨hO,Nat.le_trans h.yd.h.size hb⟩ (fun q hq=>by cases hq; exact hb),h.rr.app2,h.rf.app2,h.rm.app2,fun x hx=>?_,h.ne⟩
 rcases List.mem_cons.1 hx with rfl | hx
 ·exact ⟨h.yd.rest _,fun e=>Nat.lt_irrefl _ (e ▸ h.rr.lt2),fun e=>Nat.lt_irrefl _ (e ▸ h.rf.lt2),fun e=>Nat.lt_irrefl _ (e ▸ h.rm.lt2)⟩
 ·exact ⟨(h.rx x hx).1.app2,(h.rx x hx).2⟩
theorem AlAt.box (h : AlAt W w l B N Y J n jr jf jm X A cp row fb full mb nn F M) (e : Below w.heap.size w w') {b : Nat} {xs : List Value} (hO : IsObj w' b xs) (hb : w.heap.size ≤ b) : ∃ l' j,AlAt W w' l' B N Y J n jr jf jm ((j,b,xs) :: X) A cp row fb full mb nn F M:=⟨_,_,h.more e hO hb⟩
theorem AlAt.less (h : AlAt W w l B N Y J n jr jf jm X A cp row fb full mb nn F M) (hX : ∀ x ∈ X',x ∈ X) : AlAt W w l B N Y J n jr jf jm X' A cp row fb full mb nn F M:=⟨h.yd,h.rr,h.rf,h.rm,fun x hx=>h.rx x (hX x hx),h.ne⟩
theorem AlAt.obj (h : AlAt W w l B N Y J n jr jf jm X A cp row fb full mb nn F M) {j b : Nat} {xs : List Value} (hx : (j,b,xs) ∈ X) : IsObj w b xs:=(h.yd.has (h.rx _ hx).1).1
theorem AlAt.fullAt (h : AlAt W w l B N Y J n jr jf jm X A cp row fb full mb nn F M) {j : Nat} (hj : j < full.length) : w.cell? ⟨fb,j,none⟩ = some (i64 (full.getD j 0)) :=
 (h.yd.has h.rf).1.at' j _ (by rw [List.getElem?_map,List.getElem?_eq_getElem hj,List.getD_eq_getElem?_getD,List.getElem?_eq_getElem hj]; rfl)
theorem AlAt.fullLt (h : AlAt W w l B N Y J n jr jf jm X A cp row fb full mb nn F M) : fb < w.heap.size:=(h.yd.has h.rf).1.lt
theorem AlAt.fullFz (h : AlAt W w l B N Y J n jr jf jm X A cp row fb full mb nn F M) (j : Nat) : w.frozen? ⟨fb,j,none⟩ = false:=(h.yd.has h.rf).1.fz j
theorem AlAt.map (h : AlAt W w l B N Y J n jr jf jm X A cp row fb full mb nn F M) : IMap Tryz.prog 41 3 .u64 w mb nn F M:=(h.yd.has h.rm).1
theorem AlAt.cap (h : AlAt W w l B N Y J n jr jf jm X A cp row fb full mb nn F M) : row.length ≤ cp:=zEN (show w.ownsRow W.heap.size 41 1 (.slice A row.length cp) row.length (row.map (Value.int .u64)) from h.yd.has h.rr)
theorem AlAt.src (h : AlAt W w l B N Y J n jr jf jm X A cp row fb full mb nn F M) : Src w 1 A row.length (row.map (Value.int .u64)):=zHl (h.yd.has h.rr)
theorem AlAt.vals (h : AlAt W w l B N Y J n jr jf jm X A cp row fb full mb nn F M) (hr : 0 < row.length) : ∃ g,A = some ⟨g,0,none⟩ ∧ g < w.heap.size ∧ (∀ j,j < row.length → w.cell? ⟨g,j,none⟩ = some (u64 (row.getD j 0))) ∧ ∀ o m,o + m ≤ row.length → ∀ w',Below w.heap.size w w' → Src w' 1 (some ⟨g,o,none⟩) m (((row.drop o).take m).map (Value.int .u64)):=by
 have h' : w.ownsRow W.heap.size 41 1 (.slice A row.length cp) row.length (row.map (Value.int .u64)):=h.yd.has h.rr
 obtain ⟨g,cap,hv,_,hg⟩:=zBp h' hr
 cases hv
 refine ⟨g,rfl,hg,fun j hj=>zH8 h' hj,fun o m ho w' hb=>?_⟩
 rw [List.map_take,List.map_drop]
 exact zA7 (zHJ h' (zEp row) ho) hb
theorem AlAt.setFull (h : AlAt W w l B N Y J n jr jf jm X A cp row fb full mb nn F M) (j : Nat) (x : Int) : ∃ l',AlAt W (w.setCell ⟨fb,j,none⟩ (i64 x)) l' B N Y J n jr jf jm X A cp row fb (full.set j x) mb nn F M:=by
 have hH:=h.yd.h.hold.cdSet jf h.rf.at' j (i64 x)
 rw [show (full.map (Value.int .i64)).set j (i64 x) = (full.set j x).map (Value.int .i64) by rw [List.map_set]] at hH
 obtain ⟨hd,hr⟩:=h.yd.turnRest h.rf hH
 exact ⟨_,hd,h.rr.set h.ne.1 _,hr,h.rm.set h.ne.2.2 _,fun x hx=>⟨(h.rx x hx).1.set (fun e=>(h.rx x hx).2.2.1 e.symm) _,(h.rx x hx).2⟩,h.ne⟩
theorem AlAt.setMap (h : AlAt W w l B N Y J n jr jf jm X A cp row fb full mb nn F M) {nn' : Nat} {F' : Int → Int} {M' : Int → Bool} (hm : IMap Tryz.prog 41 3 .u64 w' mb nn' F' M') (hg : w.grownBy w' (some mb)) : ∃ l',AlAt W w' l' B N Y J n jr jf jm X A cp row fb full mb nn' F' M':=by
 have hb : W.heap.size ≤ mb:=(h.yd.has h.rm).2
 have k : Keep (tMap W.heap.size mb nn F M).F w w':=Keep.of_grown hg (fun k hk=>by cases hk; exact rfl)
 have hH:=h.yd.h.hold.turn jm h.rm.at' k (zGM _ _ nn' F' M') ⟨hm,hb⟩ (fun q hq=>.inl hq)
 obtain ⟨hd,hr⟩:=h.yd.turnRest h.rm hH
 exact ⟨_,hd,h.rr.set h.ne.2.1 _,h.rf.set (fun e=>h.ne.2.2 e.symm) _,hr,fun x hx=>⟨(h.rx x hx).1.set (fun e=>(h.rx x hx).2.2.2 e.symm) _,(h.rx x hx).2⟩,h.ne⟩
theorem AlAt.grow (h : AlAt W w l B N Y J n jr jf jm X A cp row fb full mb nn F M) {v' : Value} {k : Nat} {xs : List Value} (g : Grew w w' W.heap.size 41 1 (.slice A row.length cp) v' k xs) (hk : k = row'.length) (hx : xs = row'.map (Value.int .u64)) : ∃ A' cp' l',v' = .slice A' row'.length cp' ∧ AlAt W w' l' B N Y J n jr jf jm X A' cp' row' fb full mb nn F M:=by
 subst hk hx
 obtain ⟨A',cp',rfl⟩:=zAK g.own
 have hH:=h.yd.h.hold.append jr rfl h.rr.at' g
 obtain ⟨hd,hr⟩:=h.yd.turnRest h.rr hH
 exact ⟨A',cp',_,rfl,hd,hr,h.rf.set (fun e=>h.ne.1 e.symm) _,h.rm.set (fun e=>h.ne.2.1 e.symm) _,fun x hx=>⟨(h.rx x hx).1.set (fun e=>(h.rx x hx).2.1 e.symm) _,(h.rx x hx).2⟩,h.ne⟩
theorem AlAt.fresh (h : AlAt W w l B N Y J n jr jf jm X A cp row fb full mb nn F M) (e : Below w.heap.size w w1) {b k0 c0 k : Nat} {xs0 xs : List Value} {v' : Value} (hP : w1.ownsRow W.heap.size 41 1 (.slice (some ⟨b,0,none⟩) k0 c0) k0 xs0) (hb : w.heap.size ≤ b) (g : Grew w1 w2 W.heap.size 41 1 (.slice (some ⟨b,0,none⟩) k0 c0) v' k xs) (hk : k = row'.length) (hx : xs = row'.map (Value.int .u64)) :
  ∃ A' cp' l' jr',v' = .slice A' row'.length cp' ∧ AlAt W w2 l' B N Y J n jr' jf jm X A' cp' row' fb full mb nn F M:=by
 subst hk hx
 obtain ⟨A',cp',rfl⟩:=zAK g.own
 have h1 : YdL W w1 (l ++ [tRow W.heap.size 41 1 (.slice (some ⟨b,0,none⟩) k0 c0) k0 xs0]) B N Y J n:=h.yd.more e (zA5 _ _ _ _ _ _) hP (fun q hq=>by cases hq; exact hb)
 have hr1 : Rest Y (l ++ [tRow W.heap.size 41 1 (.slice (some ⟨b,0,none⟩) k0 c0) k0 xs0]) J l.length (tRow W.heap.size 41 1 (.slice (some ⟨b,0,none⟩) k0 c0) k0 xs0):=h.yd.rest _
 have hH:=h1.h.hold.append l.length rfl hr1.at' g
 obtain ⟨hd,hr⟩:=h1.turnRest hr1 hH
 have n1:=h.rf.lt2
 have n2:=h.rm.lt2
 exact ⟨A',cp',_,l.length,rfl,hd,hr,h.rf.app2.set (by omega) _,h.rm.app2.set (by omega) _,fun x hx=>⟨(h.rx x hx).1.app2.set (fun e=>by have:=(h.rx x hx).1.lt2; omega) _,fun e=>(by have:=(h.rx x hx).1.lt2; omega),(h.rx x hx).2.2⟩,⟨by omega,by omega,h.ne.2.2⟩⟩
theorem AlAt.begin {w5 w6 : World} (h : YdL W w5 l B N Y J n) (xs : List Value) (ty : TypeId) {T : Nat} (hown : w6.ownsRow W.heap.size 3 1 (.slice (some ⟨w5.heap.size + 1 + 1 + 1,0,none⟩) T T) T ((List.replicate T (0 : Int)).map (Value.int .i64))) (hg : (((w5.alloc (.cells ⟨xs⟩ ty)).alloc (.cells #[] 41)).alloc (.map #[] 0)).grownBy w6 none) :
  ∃ l' jr jf jm jc,AlAt W w6 l' B N Y J n jr jf jm [(jc,w5.heap.size,xs)] (some ⟨w5.heap.size + 1,0,none⟩) 0 [] (w5.heap.size + 1 + 1 + 1) (List.replicate T 0) (w5.heap.size + 1 + 1) 0 (fun _=>0) (fun _=>false):=by
 have s1 : (w5.alloc (.cells ⟨xs⟩ ty)).heap.size = w5.heap.size + 1:=World.size_alloc _ _
 have s2 : ((w5.alloc (.cells ⟨xs⟩ ty)).alloc (.cells #[] 41)).heap.size = w5.heap.size + 1 + 1:=(World.size_alloc _ _).trans (by rw [s1])
 have s3 : (((w5.alloc (.cells ⟨xs⟩ ty)).alloc (.cells #[] 41)).alloc (.map #[] 0)).heap.size = w5.heap.size + 1 + 1 + 1:=(World.size_alloc _ _).trans (by rw [s2])
 have hA:=h.more (A:=tObj W.heap.size w5.heap.size xs) (zAA (Below.refl _ _) (.cells ⟨xs⟩ ty)) (zAP _ _ _) ⟨IsObj.made w5 xs ty,h.h.size⟩ (fun q hq=>by cases hq; exact Nat.le_refl _)
 have rA:=h.rest (tObj W.heap.size w5.heap.size xs)
 have hB:=hA.more (A:=tVal W.heap.size (some ⟨(w5.alloc (.cells ⟨xs⟩ ty)).heap.size,0,none⟩) 0 []) (zAA (Below.refl _ _) (.cells #[] 41)) (zA5 _ _ _ _ _ _) (zAi _ W.heap.size _ _ hA.h.size) zHc
 have rB:=hA.rest (tVal W.heap.size (some ⟨(w5.alloc (.cells ⟨xs⟩ ty)).heap.size,0,none⟩) 0 [])
 have hC:=hB.more (A:=tMap W.heap.size ((w5.alloc (.cells ⟨xs⟩ ty)).alloc (.cells #[] 41)).heap.size 0 (fun _=>0) (fun _=>false)) (zAA (Below.refl _ _) (.map #[] 0)) (zGM _ _ _ _ _) ⟨IMap.made _ _ _ _ _,hB.h.size⟩ (fun q hq=>by cases hq; exact Nat.le_refl _)
 have rC:=hB.rest (tMap W.heap.size ((w5.alloc (.cells ⟨xs⟩ ty)).alloc (.cells #[] 41)).heap.size 0 (fun _=>0) (fun _=>false))
 have hD:=hC.more (A:=tObj W.heap.size (w5.heap.size + 1 + 1 + 1) ((List.replicate T (0 : Int)).map (Value.int .i64))) ((Below.refl _ _).grown hg (Nat.le_refl _) (fun k hk=>by cases hk)) (zAP _ _ _) ⟨IsObj.rowOf hown (by simp),by have:=h.h.size; omega⟩ (fun q hq=>by cases hq; omega)
 have rD:=hC.rest (tObj W.heap.size (w5.heap.size + 1 + 1 + 1) ((List.replicate T (0 : Int)).map (Value.int .i64)))
 rw [s1,s2] at hD
 rw [s1] at rB
 rw [s2] at rC
 rw [s1] at rC rD
 rw [s2] at rD
 refine ⟨_,_,_,_,l.length,hD,rB.app2.app2,rD,rC.app2,fun x hx=>?_, ?_, ?_, ?_⟩
 ·rw [List.mem_singleton.1 hx]
  refine ⟨rA.app2.app2.app2, ?_, ?_, ?_⟩
  all_goals simp only [List.length_append,List.length_singleton]; omega
 all_goals simp only [List.length_append,List.length_singleton]; omega
end
end
section
open Go.RowKit
def genW (x : Int) : Int:=x / 8 % 8192
def gsum (s : Nat) (C : List Int) (w : Nat) : Nat → Int
 | 0=>0
 | i + 1=>gsum s C w i + if i / s = w then genW (C.getD i 0) else 0
theorem zCW {s : Nat} {C C' : List Int} {w : Nat} : ∀ {n : Nat},(∀ j,j < n → genW (C'.getD j 0) = genW (C.getD j 0)) → gsum s C' w n = gsum s C w n
 | 0,_=>rfl
 | n + 1,h=>by rw [gsum,gsum,zCW (fun j hj=>h j (by omega)),h n (by omega)]
theorem zGi {s : Nat} {C C' : List Int} {w c : Nat} : ∀ {n : Nat},c < n → (∀ j,j ≠ c → j < n → genW (C'.getD j 0) = genW (C.getD j 0)) → genW (C'.getD c 0) = genW (C.getD c 0) + 1 → gsum s C' w n = gsum s C w n + if c / s = w then 1 else 0
 | 0,hc,_,_=>by omega
 | n + 1,hc,h,hu=>by
  rw [gsum,gsum]
  by_cases e : c = n
  ·subst e
   rw [zCW (fun j hj=>h j (by omega) (by omega)),hu]
   split <;> omega
  ·rw [zGi (n:=n) (by omega) (fun j hj hl=>h j hj (by omega)) hu,h n (fun q=>e q.symm) (by omega)]
   omega
def putOf (w : Nat) (d : Dd) : Bool:=d.ok && decide (d.kd = 0) && decide (d.who = w)
def GenOk (s N : Nat) (Y : Yd) : Prop:=∀ v : Nat,gsum s Y.C v N = (cntL (putOf v) Y.ds : Int)
section
variable {B : YB} {N n : Nat} {Y Y' : Yd}
theorem zHm (hA : AOk B N Y) (hC : COk B N Y) (ho : YOk (plOf B N) B.T n Y) (hc : YCf B N) (hT : (B.T : Int) = B.t) (hl : (Y.C.length : Int) = 2 * N + 2 * B.t) (hfit : ∀ j,0 ≤ Y.C.getD j 0 ∧ Y.C.getD j 0 ≤ 18446744073709551615) {w i : Nat} {T : Wk} {z : Int} (hw : Y.ts[w]? = some (some (T,i))) (ha : T.ask Y.C z) :
  ((∀ j,j < N → genW ((T.cells (plOf B N w) Y.C Y.now).getD j 0) = genW (Y.C.getD j 0) ∧ (Y.C.getD j 0 = 0 → (T.cells (plOf B N w) Y.C Y.now).getD j 0 = 0)) ∧ ((T.step (plOf B N w) Y.C Y.now z).ph = 1 → T.take = true)) ∨
  (T.take = false ∧ (T.step (plOf B N w) Y.C Y.now z).ph = 1 ∧ ∃ c : Nat,c < N ∧ (w : Int) * B.s ≤ c ∧ (c : Int) < (w : Int) * B.s + B.s ∧ (∀ j,j ≠ c → j < N → (T.cells (plOf B N w) Y.C Y.now).getD j 0 = Y.C.getD j 0) ∧ genW ((T.cells (plOf B N w) Y.C Y.now).getD c 0) = genW (Y.C.getD c 0) + 1):=by
 have hlen : Y.C.length = 2 * N + 2 * B.T:=by omega
 have rf : ∀ j,j < N → genW (Y.C.getD j 0) = genW (Y.C.getD j 0) ∧ (Y.C.getD j 0 = 0 → Y.C.getD j 0 = 0):=fun _ _=>⟨rfl,id⟩
 have far : ∀ (c : Nat) (x : Int),N ≤ c → ∀ j,j < N → genW ((Y.C.set c x).getD j 0) = genW (Y.C.getD j 0) ∧ (Y.C.getD j 0 = 0 → (Y.C.set c x).getD j 0 = 0):=fun c x h j hj=>by rw [zAF x (by omega)]; exact ⟨rfl,id⟩
 cases T with
 | pu k =>
  have hP:=hA.put w k i hw
  have hF:=ho.putF hc hT hl hw
  have hok:=hF.ok
  have f1:=hF.who; have f2:=hF.ph; have f5:=hF.lo; have f6:=hF.hi; have f7:=hF.n1
  obtain ⟨m0,_⟩:=hc.own hT hF.wT
  have hnp : ¬ k.ph ≠ 0:=by omega
  show (((∀ j,j < N → genW ((k.cells N (2 * N + B.T) Y.C Y.now).getD j 0) = _ ∧ (_ → (k.cells N (2 * N + B.T) Y.C Y.now).getD j 0 = 0)) ∧ ((k.step ((w : Int) * B.s) (2 * N + B.T) (2 * N) Y.C Y.now).ph = 1 → false = true)) ∨ _)
  rcases hok.at' f2 with ⟨a1,a2,a3⟩ | ⟨a1,a2,a3⟩ | ⟨a1,a2,a3⟩ | ⟨a1,a2,a3⟩
  ·have e2 : k.cells N (2 * N + B.T) Y.C Y.now = Y.C:=by unfold Pu.cells; rw [if_neg hnp,if_pos a1]
   have e3 : k.step ((w : Int) * B.s) (2 * N + B.T) (2 * N) Y.C Y.now = ({ k with cl:=k.cl.step ((w : Int) * B.s) (2 * N) Y.C } : Pu).after (k.cl.step ((w : Int) * B.s) (2 * N) Y.C).ph:=by unfold Pu.step; rw [if_neg hnp,if_pos a1]
   left
   rw [e2,e3]
   exact ⟨rf,fun q=>absurd q (zA2 { k with cl:=k.cl.step ((w : Int) * B.s) (2 * N) Y.C } _ f2)⟩
  ·have e2 : k.cells N (2 * N + B.T) Y.C Y.now = (stp (2 * N + B.T) k.tk Y.C Y.now).2.1:=by unfold Pu.cells; rw [if_neg hnp,if_neg (by omega),if_pos a1]
   have e3 : k.step ((w : Int) * B.s) (2 * N + B.T) (2 * N) Y.C Y.now = ({ k with tk:=(stp (2 * N + B.T) k.tk Y.C Y.now).1 } : Pu).after (stp (2 * N + B.T) k.tk Y.C Y.now).1.ph:=by unfold Pu.step; rw [if_neg hnp,if_neg (by omega),if_pos a1]
   left
   rw [e2,e3]
   refine ⟨?_,fun q=>absurd q (zA2 { k with tk:=(stp (2 * N + B.T) k.tk Y.C Y.now).1 } _ f2)⟩
   rcases zCG (now:=Y.now) hok.tk hP.so' hfit (fun q1 q2=>by
    have htw:=hok.tw
    rw [htw] at q2 ⊢
    exact hP.num f2 q1 a3 q2) with hq | ⟨c,x,hq,h1,_⟩
   ·rw [hq]
    exact rf
   ·rw [hq]
    exact far c x (by omega)
  ·have e2 : k.cells N (2 * N + B.T) Y.C Y.now = Y.C.set (N + k.cl.slot.toNat) k.value:=by unfold Pu.cells; rw [if_neg hnp,if_neg (by omega),if_neg (by omega),if_pos a1]
   have e3 : k.step ((w : Int) * B.s) (2 * N + B.T) (2 * N) Y.C Y.now = { k with next:=3 }:=by unfold Pu.step; rw [if_neg hnp,if_neg (by omega),if_neg (by omega),if_pos a1]
   left
   rw [e2,e3]
   exact ⟨far _ _ (by omega),fun q=>absurd (f2.symm.trans q) (by decide)⟩
  ·have e2 : k.cells N (2 * N + B.T) Y.C Y.now = Y.C.set k.cl.slot.toNat k.pack:=by unfold Pu.cells; rw [if_neg hnp,if_neg (by omega),if_neg (by omega),if_neg (by omega)]
   have e3 : k.step ((w : Int) * B.s) (2 * N + B.T) (2 * N) Y.C Y.now = { k with ph:=1 }:=by unfold Pu.step; rw [if_neg hnp,if_neg (by omega),if_neg (by omega),if_neg (by omega)]
   have hpre:=hP.word f2 (.inl a2)
   have hg:=hok.wg (.inl a2)
   have hst3:=hok.st a3
   have hpp:=zB5 hok.e0 hok.e1 hg.1 hg.2 hst3.1 hst3.2.1 hst3.2.2
   right
   refine ⟨rfl,by show (k.step ((w : Int) * B.s) (2 * N + B.T) (2 * N) Y.C Y.now).ph = 1; rw [e3],k.cl.slot.toNat,by omega,by omega,by omega,fun j hj hjn=>?_, ?_⟩
   ·show (k.cells N (2 * N + B.T) Y.C Y.now).getD j 0 = _
    rw [e2,zAF _ (fun q=>hj q.symm)]
   ·show genW ((k.cells N (2 * N + B.T) Y.C Y.now).getD k.cl.slot.toNat 0) = _
    rw [e2,zAL _ (by omega)]
    unfold genW
    rw [hpre.2]
    exact hpp.2.1
 | ge k =>
  have hF:=ho.getF hw
  have f2:=hF.ph
  have hwT:=hF.wT
  have hnp : ¬ k.ph ≠ 0:=by omega
  refine .inl ⟨?_,fun _=>rfl⟩
  show ∀ j,j < N → genW ((k.cells N (2 * N + w) Y.C).getD j 0) = _ ∧ (_ → (k.cells N (2 * N + w) Y.C).getD j 0 = 0)
  cases hta : k.ta with
  | none =>
   have e2 : k.cells N (2 * N + w) Y.C = Y.C:=by unfold Ge.cells; rw [if_neg hnp,hta]
   rw [e2]
   exact rf
  | some a =>
   obtain ⟨b1,b2,b3,b4,b5⟩:=hF.ta a hta
   have e2 : k.cells N (2 * N + w) Y.C = a.cells a.slot.toNat (2 * N + w) Y.C:=by unfold Ge.cells; rw [if_neg hnp,hta]
   rw [e2]
   rcases b5.st b2 with ⟨hn,hlo⟩ | ⟨hn,hlo⟩ | ⟨hn,hlo⟩ | ⟨hn,hlo⟩ | hn
   ·obtain ⟨g1,g2,g3⟩:=go_0 (j:=a.slot.toNat) (jv:=N + a.slot.toNat) (hz:=2 * N + w) (C:=Y.C) b2 hn
    rw [g2]
    exact far _ _ (by omega)
   ·by_cases hwd : Y.C.getD a.slot.toNat 0 = a.word
    ·obtain ⟨g1,g2,g3⟩:=go_1y (jv:=N + a.slot.toNat) (hz:=2 * N + w) b2 hn hwd
     rw [g2]
     exact rf
    ·obtain ⟨g1,g2,g3⟩:=go_1n (jv:=N + a.slot.toNat) (hz:=2 * N + w) b2 hn hwd
     rw [g2]
     exact rf
   ·obtain ⟨g1,g2,g3⟩:=go_2 (j:=a.slot.toNat) (jv:=N + a.slot.toNat) (hz:=2 * N + w) (C:=Y.C) b2 hn
    rw [g2]
    exact rf
   ·by_cases hwd : Y.C.getD a.slot.toNat 0 = a.word
    ·obtain ⟨g1,g2,g3⟩:=go_3y (jv:=N + a.slot.toNat) (hz:=2 * N + w) b2 hn hwd
     have hp:=(zAj b5.x0).2.2.1
     have hAa:=hA.get w k i a hw hta
     rw [g2]
     intro j hj
     by_cases e : a.slot.toNat = j
     ·subst e
      rw [zAL _ (by omega),hwd]
      exact ⟨hp,fun q=>by have:=hAa.live; rw [q] at this; exact absurd this (by decide)⟩
     ·rw [zAF _ e]
      exact ⟨rfl,id⟩
    ·obtain ⟨g1,g2,g3⟩:=go_3n (jv:=N + a.slot.toNat) (hz:=2 * N + w) b2 hn hwd
     rw [g2]
     exact rf
   ·by_cases hlo : a.lost = true
    ·obtain ⟨g1,g2,g3⟩:=go_4n (j:=a.slot.toNat) (jv:=N + a.slot.toNat) (hz:=2 * N + w) (C:=Y.C) b2 hn hlo
     rw [g2]
     exact far _ _ (by omega)
    ·have hlo' : a.lost = false:=by simpa using hlo
     obtain ⟨g1,g2,g3⟩:=go_4y (j:=a.slot.toNat) (jv:=N + a.slot.toNat) (hz:=2 * N + w) (C:=Y.C) b2 hn hlo'
     rw [g2]
     exact far _ _ (by omega)
theorem GenOk.start (s : Nat) (C : List Int) (hC : ∀ j,C.getD j 0 = 0) (T : Nat) : GenOk s N ⟨C,[],0,0,List.replicate T none,[]⟩:=fun v=>by
 show gsum s C v N = ((0 : Nat) : Int)
 have : ∀ m,gsum s C v m = 0:=fun m=>by
  induction m with
  | zero=>rfl
  | succ m ih =>
   rw [gsum,ih,hC m]
   split <;> rfl
 rw [this]
 rfl
theorem GenOk.next {s : Nat} (h : GenOk s N Y) (hs : B.s = s) (hA : AOk B N Y) (hC : COk B N Y) (ho : YOk (plOf B N) B.T n Y) (hc : YCf B N) (hT : (B.T : Int) = B.t) (hl : (Y.C.length : Int) = 2 * N + 2 * B.t) (hfit : ∀ j,0 ≤ Y.C.getD j 0 ∧ Y.C.getD j 0 ≤ 18446744073709551615) (hm : YHow B N Y Y') : GenOk s N Y':=by
 cases hm with
 | rest=>exact h
 | pass m hm=>exact h
 | call w take kd e x st hw he hk =>
  intro v
  show gsum s Y.C v N = ((cntL (putOf v) (Y.ds ++ [_]) : Nat) : Int)
  rw [zBt,if_neg (by simp [putOf])]
  exact h v
 | step w T i z hw ha =>
  intro v
  obtain ⟨k1,k2,k3,k4,d,k5,k6,k7,k8,_⟩:=ho.task w T i hw
  have hkd:=hC.kind w T i d hw k5
  have hg:=zHm hA hC ho hc hT hl hfit hw ha
  have hpd : putOf v d = false:=by unfold putOf; rw [k8]; rfl
  show gsum s (T.cells (plOf B N w) Y.C Y.now) v N = ((cntL (putOf v) (if (T.step (plOf B N w) Y.C Y.now z).ph = 0 then Y.ds else Y.ds.modify i (fun d=>d.over Y.moves (T.step (plOf B N w) Y.C Y.now z))) : Nat) : Int)
  have hcnt : (T.step (plOf B N w) Y.C Y.now z).ph ≠ 1 ∨ T.take = true → cntL (putOf v) (if (T.step (plOf B N w) Y.C Y.now z).ph = 0 then Y.ds else Y.ds.modify i (fun d=>d.over Y.moves (T.step (plOf B N w) Y.C Y.now z))) = cntL (putOf v) Y.ds:=fun hq=>by
   split
   ·rfl
   ·rw [zBU k5]
    have c3:=zAa (p:=putOf v) (b:=d.over Y.moves (T.step (plOf B N w) Y.C Y.now z)) k5
    have hpo : putOf v (d.over Y.moves (T.step (plOf B N w) Y.C Y.now z)) = false:=by
     unfold putOf
     rcases hq with hq | hq
     ·unfold Dd.over
      rw [if_neg hq]
      show (d.ok && _ && _) = false
      rw [k8]
      rfl
     ·rw [(Dd.over_same d _ _).2.1,hkd,hq,decide_eq_false (by decide),Bool.and_false,Bool.false_and]
    rw [hpd,hpo] at c3
    simpa using c3
  rcases hg with ⟨g1,g2⟩ | ⟨g0,g2,c,c1,c2,c3,g3,g4⟩
  ·rw [zCW (fun j hj=>(g1 j hj).1),hcnt (by
    by_cases q : (T.step (plOf B N w) Y.C Y.now z).ph = 1
    ·exact .inr (g2 q)
    ·exact .inl q)]
   exact h v
  ·rw [zGi c1 (fun j a b=>by rw [g3 j a b]) g4,h v,if_neg (show ¬ (T.step (plOf B N w) Y.C Y.now z).ph = 0 by omega),zBU k5]
   have c4:=zAa (p:=putOf v) (b:=d.over Y.moves (T.step (plOf B N w) Y.C Y.now z)) k5
   have hpo : putOf v (d.over Y.moves (T.step (plOf B N w) Y.C Y.now z)) = decide ((w : Int) = v):=by
    unfold putOf
    rw [(Dd.over_same d _ _).2.1,(Dd.over_same d _ _).1,hkd,g0,k6]
    unfold Dd.over
    rw [if_pos g2]
    rfl
   rw [hpd,hpo] at c4
   have hcs : c / s = w:=by
    rw [hs] at c2 c3
    have s1:=hc.lay.s1
    refine Nat.div_eq_of_lt_le ?_ ?_
    ·exact Int.ofNat_le.1 (show ((w * s : Nat) : Int) ≤ (c : Int) by rw [Int.natCast_mul]; exact c2)
    ·exact Int.ofNat_lt.1 (show (c : Int) < (((w + 1) * s : Nat) : Int) by rw [Nat.add_mul,Nat.one_mul,Int.natCast_add,Int.natCast_mul]; exact c3)
   rw [hcs]
   by_cases e : w = v
   ·subst e
    simp at c4 ⊢
    omega
   ·rw [if_neg e]
    rw [decide_eq_false (by omega)] at c4
    simp at c4
    omega
end
section
variable {B : YB} {N m s : Nat} {Y : Nat → Yd}
theorem YTr.gens (h : YTr B N Y m) (hs : B.s = s) : ∀ i,i ≤ m → GenOk s N (Y i)
 | 0,_=>by
  rw [h.zero]
  exact GenOk.start s _ (fun j=>by
   rw [List.getD_eq_getElem?_getD,List.getElem?_replicate]
   split <;> rfl) _
 | i + 1,hi=>by
  have ih:=YTr.gens h hs i (by omega)
  have ha:=h.all i (by omega)
  exact ih.next hs ha.aok ha.cok ha.ok h.cf h.hT ha.len (h.fit i (by omega)) (h.how i (by omega))
end
end
section
open Go.RowKit
theorem zGn {nb : Nat} {k : Tk} {C : List Int} {now M n : Int} (hk : k.Ok nb n C) (h : Go1 nb k C now M) (hM : MostN nb C M) (m0 : 0 ≤ M) (m1 : M < 1000000) (n0 : 0 ≤ now) (n1 : now < 16777215) : (stp nb k C now).1.ph ≠ 2:=by
 have hx:=hM nb (Nat.le_refl _)
 have hl : low (C.getD nb 0) = C.getD nb 0:=by unfold low; omega
 have hln : low now = now:=by unfold low; omega
 have he0:=hk.e0
 have hp:=h.ph
 have fin1 : ∀ (K : Tk) (lo hi : Int),0 ≤ lo → lo ≤ hi → hi < 16777215 → (fin K lo hi).ph ≠ 2:=fun K lo hi a b c=>by
  unfold fin
  rw [if_pos ⟨a,b,c⟩]
  show (1 : Int) ≠ 2
  decide
 have hs0:=hk.s0
 unfold stp
 rw [if_pos hp,hl,hln]
 rcases (by have:=hk.o0; have:=hk.o1; omega : k.so = 0 ∨ k.so = 1 ∨ k.so = 2 ∨ 3 ≤ k.so) with hs | hs | hs | hs
 ·rw [if_pos hs]
  exact fin1 _ _ _ hx.1 (Int.le_refl _) (by omega)
 ·have hse:=h.seen (by omega)
  rw [if_neg (by omega),if_pos hs]
  split
  ·show k.ph ≠ 2
   omega
  ·rw [if_pos (by omega)]
   show (1 : Int) ≠ 2
   decide
 ·have hse:=h.seen (by omega)
  rw [if_neg (by omega),if_neg (by omega),if_pos hs]
  split
  ·show (if C.getD nb 0 = 16777215 then (2 : Int) else 0) ≠ 2
   rw [if_neg (by omega)]
   decide
  ·rename_i q0
   have hlo:=h.low hs q0
   split
   ·split
    ·show k.ph ≠ 2
     omega
    ·exact fin1 _ _ _ he0 (by omega) (by omega)
   ·split
    ·split
     ·exact fin1 _ _ _ he0 (Int.le_refl _) (by omega)
     ·show k.ph ≠ 2
      omega
    ·have hsw:=h.sw hs (by omega)
     exact fin1 _ _ _ he0 (by omega) (by omega)
 ·rw [if_neg (by omega),if_neg (by omega),if_neg (by omega)]
  split
  ·by_cases q : k.steps = 0
   ·rw [if_pos q]
    exact fin1 _ _ _ n0 (Int.le_refl _) n1
   ·rw [if_neg q]
    exact fin1 _ _ _ he0 (h.time hs q) n1
  ·show k.ph ≠ 2
   omega
section
variable {B : YB} {N n s : Nat} {Y Y' : Yd}
end
end
section
open Go.RowKit
section
variable {Y : Yd} {P : Pl} {w i : Nat} {T T' : Wk} {z : Int}
theorem zDe (e : T.step P Y.C Y.now z = T') (hp : T'.ph = 0) : (Y.step P w T i z).ts = Y.ts.set w (some (T',i)) ∧ (Y.step P w T i z).ds = Y.ds:=by
 subst e
 exact ⟨if_pos hp,if_pos hp⟩
theorem zCZ (e : T.step P Y.C Y.now z = T') (hp : T'.ph ≠ 0) : (Y.step P w T i z).ts = Y.ts.set w none ∧ (Y.step P w T i z).ds = Y.ds.modify i (fun d=>d.over Y.moves T'):=by
 subst e
 exact ⟨if_neg hp,if_neg hp⟩
theorem zCi {u : Nat} (hu : u ≠ w) : (Y.step P w T i z).ts[u]? = Y.ts[u]?:=by
 show (if _ then Y.ts.set w _ else Y.ts.set w _)[u]? = _
 split <;> rw [List.getElem?_set_ne (fun e=>hu e.symm)]
end
def LoneP (B : YB) (N : Nat) (C0 : List Int) (w D : Nat) (Y : Yd) : Prop :=
  (∀ u,u < B.T → u ≠ w → Y.ts[u]? = some none) ∧
  ((∃ k : Pu,Y.ts[w]? = some (some (.pu k,D)) ∧ (k.next = 0 → Y.C = C0 ∧ ∃ i,Fd k.cl C0 (N : Int) ((w : Int) * B.s) (2 * N) i) ∧ (k.next ≠ 0 → usable C0 B.t (2 * N) k.cl.slot) ∧ (∀ q : Nat,(q < N ∨ (2 * N ≤ q ∧ q < 2 * N + B.T)) → Y.C.getD q 0 = C0.getD q 0) ∧ (∀ q : Nat,q < N → ((q : Int) ≠ k.cl.slot ∨ (k.next ≠ 3)) → Y.C.getD (N + q) 0 = C0.getD (N + q) 0)) ∨
   (Y.ts[w]? = some none ∧ ∃ d,Y.ds[D]? = some d ∧
     ((d.ok = false ∧ (∀ q : Nat,(q < N ∨ (2 * N ≤ q ∧ q < 2 * N + B.T)) → Y.C.getD q 0 = C0.getD q 0) ∧ (∀ q : Nat,q < N → Y.C.getD (N + q) 0 = C0.getD (N + q) 0) ∧ ∀ j : Int,(w : Int) * B.s ≤ j → j < (w : Int) * B.s + B.s → ¬ usable C0 B.t (2 * N) j) ∨
      (d.ok = true ∧ ∃ j : Nat,j < N ∧ (w : Int) * B.s ≤ j ∧ (j : Int) < (w : Int) * B.s + B.s ∧ usable C0 B.t (2 * N) j ∧ Y.C.getD j 0 % 4 = 1 ∧ (∀ q : Nat,(q < N ∨ (2 * N ≤ q ∧ q < 2 * N + B.T)) → q ≠ j → Y.C.getD q 0 = C0.getD q 0) ∧ ∀ q : Nat,q < N → q ≠ j → Y.C.getD (N + q) 0 = C0.getD (N + q) 0))))
section
variable {B : YB} {N m w D : Nat} {Y : Nat → Yd} {C0 : List Int}
theorem zEP {k : Pu} {r : Int} (h1 : r ≠ 1) (h2 : r ≠ 2) : k.after r = k:=by
 unfold Pu.after
 rw [if_neg h1,if_neg h2]
theorem LoneP.start (h : YTr B N Y m) {a : Nat} (ha : a ≤ m) {e x : Int} (hts : (Y a).ts[w]? = some (some (.pu (pu0 B.t B.s B.so B.d w e x ((w : Int) * B.s)),D))) (hidle : ∀ u,u < B.T → u ≠ w → (Y a).ts[u]? = some none) : LoneP B N (Y a).C w D (Y a):=by
 have hA:=h.all a ha
 have hF:=hA.ok.putF h.cf h.hT hA.len hts
 have hok:=hF.ok
 exact ⟨hidle,.inl ⟨_,hts,fun _=>⟨rfl,0,Fd.start B.t B.s B.so B.d w hok.cl.lay hok.cl.hz hok.cl.len hok.cl.w0 hok.cl.w1 rfl hok.cl.m0 hok.cl.m1⟩,fun hn=>absurd rfl hn,fun _ _=>rfl,fun _ _ _=>rfl⟩⟩
theorem LoneP.next (h : YTr B N Y m) {i : Nat} (hi : i < m) (L : LoneP B N C0 w D (Y i)) (hds : (Y (i + 1)).ds.length = (Y i).ds.length) (hnow : (Y i).now < 16777215) : LoneP B N C0 w D (Y (i + 1)):=by
 have hA:=h.all i (by omega)
 have hhow:=h.how i hi
 have hfit:=h.fit i (by omega)
 have hmv : (Y i).moves < 1000000:=by have:=hA.ok.most; have:=h.few; omega
 generalize Y (i + 1) = Z at hhow hds ⊢
 cases hhow with
 | rest=>exact L
 | pass n hn=>exact L
 | call v take kd e x s hw he hk =>
  exfalso
  have h1 : ((Y i).ds ++ [(⟨v,kd,e,x,s,(Y i).moves, -1,false,0,0,0⟩ : Dd)]).length = (Y i).ds.length:=hds
  rw [List.length_append,List.length_singleton] at h1
  omega
 | step v T q z hw ha =>
  obtain ⟨hne,⟨k,hts,h0,h1,h2,h3⟩ | ⟨hts,_⟩⟩:=L
  case inr =>
   exfalso
   by_cases e : v = w
   ·subst e
    rw [hts] at hw
    cases hw
   ·have:=(List.getElem?_eq_some_iff.1 hw).1
    have:=hA.ok.len
    rw [hne v (by omega) e] at hw
    cases hw
  have hvw : v = w:=Classical.byContradiction fun e=>by
   have:=(List.getElem?_eq_some_iff.1 hw).1
   have:=hA.ok.len
   rw [hne v (by omega) e] at hw
   cases hw
  subst hvw
  rw [hts] at hw
  cases hw
  obtain ⟨_,_,_,_,d0,k5,_,_,k8,_⟩:=hA.ok.task v _ _ hts
  have hlt:=(List.getElem?_eq_some_iff.1 hts).1
  have hF:=hA.ok.putF h.cf h.hT hA.len hts
  have hok:=hF.ok
  have hph:=hF.ph
  have hnp : ¬ k.ph ≠ 0:=by omega
  have f1:=hF.lo
  have f2:=hF.hi
  have f3:=hF.n1
  have hT:=h.hT
  have hlen:=hA.len
  have hCl : (Y i).C.length = 2 * N + 2 * B.T:=by omega
  have m0 : 0 ≤ (v : Int) * B.s:=(h.cf.own hT hF.wT).1
  have hel : ∀ u,u < B.T → u ≠ v → ((Y i).step (plOf B N v) v (.pu k) D z).ts[u]? = some none:=fun u hu hn=>by rw [zCi hn]; exact hne u hu hn
  have hCe : ((Y i).step (plOf B N v) v (.pu k) D z).C = k.cells N (2 * N + B.T) (Y i).C (Y i).now:=rfl
  have hst : (Wk.pu k).step (plOf B N v) (Y i).C (Y i).now z = .pu (k.step ((v : Int) * B.s) (2 * N + B.T) (2 * N) (Y i).C (Y i).now):=rfl
  have hct:=hok.ct
  have hcs:=hok.cs
  have hkt:=hF.t
  have hks:=hF.s
  have run : ∀ k' : Pu,k.step ((v : Int) * B.s) (2 * N + B.T) (2 * N) (Y i).C (Y i).now = k' → k'.ph = 0 → (k'.next = 0 → k.cells N (2 * N + B.T) (Y i).C (Y i).now = C0 ∧ ∃ i,Fd k'.cl C0 (N : Int) ((v : Int) * B.s) (2 * N) i) → (k'.next ≠ 0 → usable C0 B.t (2 * N) k'.cl.slot) → (∀ q : Nat,(q < N ∨ (2 * N ≤ q ∧ q < 2 * N + B.T)) → (k.cells N (2 * N + B.T) (Y i).C (Y i).now).getD q 0 = C0.getD q 0) → (∀ q : Nat,q < N → ((q : Int) ≠ k'.cl.slot ∨ k'.next ≠ 3) → (k.cells N (2 * N + B.T) (Y i).C (Y i).now).getD (N + q) 0 = C0.getD (N + q) 0) → LoneP B N C0 v D ((Y i).step (plOf B N v) v (.pu k) D z):=fun k' e1 e2 e3 e4 e5 e6=>by
   obtain ⟨r1,_⟩:=zDe (w:=v) (i:=D) (hst.trans (by rw [e1])) (T':=.pu k') e2
   exact ⟨hel,.inl ⟨k',by rw [r1,List.getElem?_set_self hlt],fun q=>by rw [hCe]; exact e3 q,e4,fun q hq=>by rw [hCe]; exact e5 q hq,fun q hq hh=>by rw [hCe]; exact e6 q hq hh⟩⟩
  rcases hok.at' hph with ⟨a1,a2,a3⟩ | ⟨a1,a2,a3⟩ | ⟨a1,a2,a3⟩ | ⟨a1,a2,a3⟩
  ·obtain ⟨hC,n,hfd⟩:=h0 a1
   have e5 : k.step ((v : Int) * B.s) (2 * N + B.T) (2 * N) (Y i).C (Y i).now = ({ k with cl:=k.cl.step ((v : Int) * B.s) (2 * N) (Y i).C } : Pu).after (k.cl.step ((v : Int) * B.s) (2 * N) (Y i).C).ph:=by unfold Pu.step; rw [if_neg hnp,if_pos a1]
   have e6 : k.cells N (2 * N + B.T) (Y i).C (Y i).now = C0:=by unfold Pu.cells; rw [if_neg hnp,if_pos a1,hC]
   rw [hC] at e5
   have hf:=hfd.step
   obtain ⟨s1,s2,s3⟩:=Cl.step_same k.cl ((v : Int) * B.s) (2 * N) C0
   generalize k.cl.step ((v : Int) * B.s) (2 * N) C0 = c' at e5 hf s1 s2 s3
   rcases hf.pr with hp | hp | hp
   ·rw [hp,Pu.after_0] at e5
    exact run { k with cl:=c' } (by rw [hC]; exact e5) hph (fun _=>⟨e6,_,hf⟩) (fun q=>absurd a1 q) (fun q hq=>by rw [e6]) (fun q hq _=>by rw [e6])
   ·rw [hp,Pu.after_1] at e5
    refine run { k with cl:=c',next:=k.next + 1 } (by rw [hC]; exact e5) hph (fun q=>?_) (fun _=>?_) (fun q hq=>by rw [e6]) (fun q hq _=>by rw [e6])
    ·have q' : k.next + 1 = 0:=q
     omega
    ·have h9:=(hf.p1 hp).1
     rw [s1,hct,hkt] at h9
     exact h9
   ·rw [hp,Pu.after_2] at e5
    obtain ⟨r1,r2⟩:=zCZ (P:=plOf B N v) (w:=v) (i:=D) (Y:=Y i) (T:=.pu k) (z:=z) (T':=.pu { k with cl:=c',ph:=2 }) (hst.trans (by rw [hC,e5])) (by show (2 : Int) ≠ 0; decide)
    refine ⟨hel,.inr ⟨by rw [r1,List.getElem?_set_self hlt],_,by rw [r2]; exact zAz k5,.inl ⟨?_,fun q hq=>by rw [hCe,e6],fun q hq=>by rw [hCe,e6],fun j hj0 hj1 hu=>?_⟩⟩⟩
    ·unfold Dd.over
     rw [if_neg (by show ¬ (2 : Int) = 1; decide)]
     exact k8
    ·obtain ⟨g1,g2⟩:=hf.p2 hp
     have g3:=hf.no j hj0
     rw [s1,hct,hkt] at g2 g3
     rw [s2,hcs,hks] at g1
     rcases (by omega : j < c'.slot ∨ j = c'.slot) with q | q
     ·exact g3 q hu
     ·rw [q] at hu
      exact g2 hu
  ·have e5 : k.step ((v : Int) * B.s) (2 * N + B.T) (2 * N) (Y i).C (Y i).now = ({ k with tk:=(stp (2 * N + B.T) k.tk (Y i).C (Y i).now).1 } : Pu).after (stp (2 * N + B.T) k.tk (Y i).C (Y i).now).1.ph:=by unfold Pu.step; rw [if_neg hnp,if_neg (by omega),if_pos a1]
   have e6 : k.cells N (2 * N + B.T) (Y i).C (Y i).now = (stp (2 * N + B.T) k.tk (Y i).C (Y i).now).2.1:=by unfold Pu.cells; rw [if_neg hnp,if_neg (by omega),if_pos a1]
   have hlow : ∀ q,q < 2 * N + B.T → (stp (2 * N + B.T) k.tk (Y i).C (Y i).now).2.1.getD q 0 = (Y i).C.getD q 0:=fun q hq=>zGu hq
   have hgo:=(hA.sok.tick v k D hts a3).1
   have hno2:=zGn hok.tk hgo hA.sok.num (by omega) (by omega) hA.ok.now0 hnow
   generalize (stp (2 * N + B.T) k.tk (Y i).C (Y i).now).1 = t' at e5 hno2
   generalize (stp (2 * N + B.T) k.tk (Y i).C (Y i).now).2.1 = C' at e6 hlow
   have w1 : ∀ q : Nat,(q < N ∨ (2 * N ≤ q ∧ q < 2 * N + B.T)) → (k.cells N (2 * N + B.T) (Y i).C (Y i).now).getD q 0 = C0.getD q 0:=fun q hq=>by rw [e6,hlow q (by omega)]; exact h2 q hq
   have w2 : ∀ q : Nat,q < N → (k.cells N (2 * N + B.T) (Y i).C (Y i).now).getD (N + q) 0 = C0.getD (N + q) 0:=fun q hq=>by rw [e6,hlow (N + q) (by omega)]; exact h3 q hq (.inr (by omega))
   by_cases hp : t'.ph = 1
   ·rw [hp,Pu.after_1] at e5
    exact run _ e5 hph (fun q=>by have q' : k.next + 1 = 0:=q; omega) (fun _=>h1 (by omega)) w1 (fun q hq _=>w2 q hq)
   ·rw [zEP hp hno2] at e5
    exact run _ e5 hph (fun q=>by have q' : k.next = 0:=q; omega) (fun _=>h1 (by omega)) w1 (fun q hq _=>w2 q hq)
  ·have e5 : k.step ((v : Int) * B.s) (2 * N + B.T) (2 * N) (Y i).C (Y i).now = { k with next:=3 }:=by unfold Pu.step; rw [if_neg hnp,if_neg (by omega),if_neg (by omega),if_pos a1]
   have e6 : k.cells N (2 * N + B.T) (Y i).C (Y i).now = (Y i).C.set (N + k.cl.slot.toNat) k.value:=by unfold Pu.cells; rw [if_neg hnp,if_neg (by omega),if_neg (by omega),if_pos a1]
   refine run _ e5 hph (fun q=>by have q' : (3 : Int) = 0:=q; omega) (fun _=>h1 (by omega)) (fun q hq=>?_) (fun q hq hh=>?_)
   ·rw [e6,zAF _ (by omega)]
    exact h2 q hq
   ·have hh' : (q : Int) ≠ k.cl.slot:=hh.resolve_right (fun x=>x rfl)
    rw [e6,zAF _ (by omega)]
    exact h3 q hq (.inl hh')
  ·have e5 : k.step ((v : Int) * B.s) (2 * N + B.T) (2 * N) (Y i).C (Y i).now = { k with ph:=1 }:=by unfold Pu.step; rw [if_neg hnp,if_neg (by omega),if_neg (by omega),if_neg (by omega)]
   have e6 : k.cells N (2 * N + B.T) (Y i).C (Y i).now = (Y i).C.set k.cl.slot.toNat k.pack:=by unfold Pu.cells; rw [if_neg hnp,if_neg (by omega),if_neg (by omega),if_neg (by omega)]
   obtain ⟨r1,r2⟩:=zCZ (P:=plOf B N v) (w:=v) (i:=D) (Y:=Y i) (T:=.pu k) (z:=z) (T':=.pu { k with ph:=1 }) (hst.trans (by rw [e5])) (by show (1 : Int) ≠ 0; decide)
   refine ⟨hel,.inr ⟨by rw [r1,List.getElem?_set_self hlt],_,by rw [r2]; exact zAz k5,.inr ⟨?_,k.cl.slot.toNat,by omega,by omega,by omega, ?_, ?_,fun q hq hn=>?_,fun q hq hn=>?_⟩⟩⟩
   ·unfold Dd.over
    rw [if_pos (show (Wk.pu { k with ph:=1 }).ph = 1 from rfl)]
   ·have h9:=h1 (by omega)
    rw [show ((k.cl.slot.toNat : Nat) : Int) = k.cl.slot by omega]
    exact h9
   ·rw [hCe,e6,zAL _ (by omega)]
    unfold Pu.pack
    omega
   ·rw [hCe,e6,zAF _ (by omega)]
    exact h2 q hq
   ·rw [hCe,e6,zAF _ (by omega)]
    exact h3 q hq (.inl (by omega))
theorem zB3 (h : YTr B N Y m) {a b : Nat} (hab : a ≤ b) (hb : b ≤ m) : (Y a).ds.length ≤ (Y b).ds.length:=by
 have hl:=h.later hab hb
 rcases Nat.eq_zero_or_pos (Y a).ds.length with h0 | h0
 ·omega
 ·obtain ⟨d',hd',_⟩:=hl.deed ((Y a).ds.length - 1) _ (List.getElem?_eq_getElem (by omega))
  have:=(List.getElem?_eq_some_iff.1 hd').1
  omega
theorem zG6 (h : YTr B N Y m) {a : Nat} (ha : a < m) : (Y a).now ≤ (Y (a + 1)).now:=by
 have hA:=(h.all a (by omega)).ok
 have h0:=hA.now0
 have h1:=hA.now1
 have hhow:=h.how a ha
 generalize Y (a + 1) = Z at hhow ⊢
 cases hhow with
 | rest=>exact Int.le_refl _
 | call=>exact Int.le_refl _
 | step v T q z hw hask=>exact (zGZ h0 h1).1
 | pass n hn =>
  show (Y a).now ≤ if n > yMax - (Y a).now then yMax else (Y a).now + n
  split <;> omega
theorem zEb (h : YTr B N Y m) {a : Nat} : ∀ {b : Nat},a ≤ b → b ≤ m → (Y a).now ≤ (Y b).now
 | 0,hab,_=>by
  obtain rfl : a = 0:=by omega
  exact Int.le_refl _
 | b + 1,hab,hb=>by
  rcases (by omega : a = b + 1 ∨ a ≤ b) with rfl | h1
  ·exact Int.le_refl _
  ·have h2:=zEb h h1 (by omega)
   have h3:=zG6 h (a:=b) hb
   omega
theorem LoneP.seg (h : YTr B N Y m) {a : Nat} (L : LoneP B N C0 w D (Y a)) (hds : (Y m).ds.length = (Y a).ds.length) (hnow : (Y m).now < 16777215) : ∀ {i : Nat},a ≤ i → i ≤ m → LoneP B N C0 w D (Y i)
 | 0,hai,_=>by
  obtain rfl : a = 0:=by omega
  exact L
 | i + 1,hai,hi=>by
  rcases (by omega : a = i + 1 ∨ a ≤ i) with rfl | h1
  ·exact L
  ·have ih:=LoneP.seg h L hds hnow h1 (by omega)
   have q1:=zB3 h h1 (show i ≤ m by omega)
   have q2:=zB3 h (show i ≤ i + 1 by omega) hi
   have q3:=zB3 h hi (Nat.le_refl _)
   have q4:=zEb h (show i ≤ m by omega) (Nat.le_refl _)
   exact ih.next h hi (by omega) (by omega)
structure PutOut (B : YB) (N : Nat) (Y0 Y' : Yd) (w : Nat) (e x : Int) (d : Dd) : Prop where
 no : d.ok = false → (∀ q : Nat,(q < N ∨ (2 * N ≤ q ∧ q < 2 * N + B.T)) → Y'.C.getD q 0 = Y0.C.getD q 0) ∧ (∀ q : Nat,q < N → Y'.C.getD (N + q) 0 = Y0.C.getD (N + q) 0) ∧ ∀ j : Int,(w : Int) * B.s ≤ j → j < (w : Int) * B.s + B.s → ¬ usable Y0.C B.t (2 * N) j
 yes : d.ok = true → ∃ j : Nat,j < N ∧ (w : Int) * B.s ≤ j ∧ (j : Int) < (w : Int) * B.s + B.s ∧ usable Y0.C B.t (2 * N) j ∧ Y'.C.getD j 0 % 4 = 1 ∧ (∀ q : Nat,(q < N ∨ (2 * N ≤ q ∧ q < 2 * N + B.T)) → q ≠ j → Y'.C.getD q 0 = Y0.C.getD q 0) ∧ (∀ q : Nat,q < N → q ≠ j → Y'.C.getD (N + q) 0 = Y0.C.getD (N + q) 0) ∧ Y'.C.getD (N + j) 0 = x ∧
  (e = 0 → ∀ q,q < N → q ≠ j → Y0.C.getD q 0 % 4 = 1 → xkey (Y'.C.getD j 0) j < xkey (Y0.C.getD q 0) q) ∧ (e = 1 → ∀ q,q < N → q ≠ j → Y0.C.getD q 0 % 4 = 1 → xkey (Y0.C.getD q 0) q < xkey (Y'.C.getD j 0) j)
theorem zHg (h : YTr B N Y m) {n : Nat} (hn : n + 1 ≤ m) (hi0 : ∀ k,k < B.T → (Y n).ts[k]? = some none) {e x s : Int} (hw : w < B.T) (he : e = 0 ∨ e = 1) (hc : Y (n + 1) = (Y n).call w 0 e x s (wkB B N w false e x s)) (hi1 : ∀ k,k < B.T → (Y m).ts[k]? = some none) (hds : (Y m).ds.length = (Y n).ds.length + 1) (hnow : (Y m).now < 16777215) {d : Dd} (hd : (Y m).ds[(Y n).ds.length]? = some d) (hdk : d.kd = 0) (hde : d.e = e) (hdx : d.x = x) (hdf : d.fr = ((Y n).moves : Int)) : PutOut B N (Y n) (Y m) w e x d:=by
 have hlt:=(List.getElem?_eq_some_iff.1 (hi0 w hw)).1
 have hts : (Y (n + 1)).ts[w]? = some (some (.pu (pu0 B.t B.s B.so B.d w e x ((w : Int) * B.s)),(Y n).ds.length)):=by
  rw [hc]
  show ((Y n).ts.set w _)[w]? = _
  rw [List.getElem?_set_self hlt]
  rfl
 have hC1 : (Y (n + 1)).C = (Y n).C:=by rw [hc]; rfl
 have hL:=LoneP.start h hn hts (fun u hu hne=>by
  rw [hc]
  show ((Y n).ts.set w _)[u]? = _
  rw [List.getElem?_set_ne (fun q=>hne q.symm)]
  exact hi0 u hu)
 rw [hC1] at hL
 have hl1 : (Y (n + 1)).ds.length = (Y n).ds.length + 1:=by
  rw [hc]
  show ((Y n).ds ++ [_]).length = _
  rw [List.length_append]
  rfl
 obtain ⟨_,⟨k,hk,_⟩ | ⟨_,d',hd',hr⟩⟩:=LoneP.seg h hL (by omega) hnow hn (Nat.le_refl _)
 ·rw [hi1 w hw] at hk
  cases hk
 rw [hd] at hd'
 cases hd'
 rcases hr with ⟨hok,r1,r2,r3⟩ | ⟨hok,j,r1,r2,r3,r4,r5,r6,r7⟩
 ·exact ⟨fun _=>⟨r1,r2,r3⟩,fun q=>(by rw [hok] at q; cases q)⟩
 refine ⟨fun q=>(by rw [hok] at q; cases q),fun _=>?_⟩
 obtain ⟨i,d2,p,p1,p2,p3,p4,p5,p6,p7⟩:=(h.puts m (Nat.le_refl _)).live j r1 r5
 have hnl : (Y n).C.getD j 0 % 4 ≠ 1:=by
  have h9:=r4.2
  rw [Int.toNat_natCast] at h9
  omega
 have hpn : n ≤ p:=Nat.le_of_not_lt fun hlt2=>by
  have h9:=h.stays r1 (a:=p + 1) (b:=n) (c:=m) (by omega) (by omega) (Nat.le_refl _) p6.symm
  rw [← p6] at h9
  rw [h9] at hnl
  exact hnl r5
 have hAm:=(h.all m (Nat.le_refl _))
 have hAn:=(h.all n (by omega))
 have hid : i = (Y n).ds.length:=by
  have hil:=(List.getElem?_eq_some_iff.1 p1).1
  rcases (by omega : i < (Y n).ds.length ∨ i = (Y n).ds.length) with q | q
  ·exfalso
   obtain ⟨dn,hdn⟩ : ∃ dn,(Y n).ds[i]? = some dn:=⟨_,List.getElem?_eq_getElem q⟩
   have hov : dn.till ≠ -1:=fun e=>by
    obtain ⟨⟨v,_,hv,g3⟩,_⟩:=hAn.ok.deed i dn hdn
    obtain ⟨T,hT⟩:=g3 e
    rw [hi0 v hv] at hT
    cases hT
   have h9:=h.over (show n ≤ m by omega) (Nat.le_refl _) hdn (.inr hov)
   rw [p1] at h9
   cases h9
   have h8:=((hAn.ok.deed i d2 hdn).2.2.2 hov).2
   have h7:=p5.till
   have h6:=h.moves hpn (by omega)
   omega
  ·exact q
 subst hid
 rw [hd] at p1
 cases p1
 have hword:=p5.word
 have hst:=p5.st
 have hg:=p5.gen
 have hgf:=(h.fit p (by omega) j).1
 rw [← p6] at hword
 rw [hde] at hword
 have old : ∀ q,q < N → (Y n).C.getD q 0 % 4 = 1 → ∃ lo hi gq eq : Int,(Y n).C.getD q 0 = 1 + 4 * eq + 8 * gq + 65536 * lo + 1099511627776 * hi ∧ (eq = 0 ∨ eq = 1) ∧ 0 ≤ gq ∧ gq ≤ 8191 ∧ 0 ≤ lo ∧ lo ≤ hi ∧ hi < 16777215 ∧ hi < d.lo:=fun q hq hl=>by
  obtain ⟨i2,d3,p',q1,q2,q3,q4,q5,q6,q7⟩:=(h.puts n (by omega)).live q hq hl
  have hov : d3.till ≠ -1:=fun e=>by
   obtain ⟨⟨v,_,hv,g3⟩,_⟩:=hAn.ok.deed i2 d3 q1
   obtain ⟨T,hT⟩:=g3 e
   rw [hi0 v hv] at hT
   cases hT
  have h9:=h.over (show n ≤ m by omega) (Nat.le_refl _) q1 (.inr hov)
  have h8:=((hAn.ok.deed i2 d3 q1).2.2.2 hov).2
  have hord:=hAm.sok.order i2 _ d3 d h9 hd q2 q3 p2 p3 (by omega)
  have w1:=q5.word
  have w2:=q5.st
  have w3:=q5.gen
  have w4:=(h.fit p' (by omega) q).1
  have w5:=q5.e0
  have w6:=q5.e1
  rw [← q6] at w1
  exact ⟨d3.lo,d3.hi,_,d3.e,w1,by omega,by omega,by omega,w2.1,w2.2.1,w2.2.2,hord⟩
 have kj : ∀ e',(e' = 0 ∨ e' = 1) → (Y m).C.getD j 0 = 1 + 4 * e' + 8 * ((Y p).C.getD j 0 / 8 % 8192 + 1) + 65536 * d.lo + 1099511627776 * d.hi → xkey ((Y m).C.getD j 0) j = pkey e' d.lo d.hi j:=fun e' he' hh=>by
  unfold xkey
  rw [show (Y m).C.getD j 0 / 4 % 2 = e' by omega,show (Y m).C.getD j 0 / 65536 % 16777216 = d.lo by omega,show (Y m).C.getD j 0 / 1099511627776 = d.hi by omega]
 have hkj:=kj e he hword
 have hbound : N < 1000000:=by
  have h1:=h.cf.lay.n2
  omega
 refine ⟨j,r1,r2,r3,r4,r5,r6,r7,by rw [p7,hdx],fun e0 q hq hne hl=>?_,fun e1 q hq hne hl=>?_⟩
 ·obtain ⟨lo,hi,gq,eq,w1,w2,w3,w4,w5,w6,w7,w8⟩:=old q hq hl
  have hkq : xkey ((Y n).C.getD q 0) q = pkey eq lo hi q:=by
   unfold xkey
   rw [show (Y n).C.getD q 0 / 4 % 2 = eq by omega,show (Y n).C.getD q 0 / 65536 % 16777216 = lo by omega,show (Y n).C.getD q 0 / 1099511627776 = hi by omega]
  rw [hkj,hkq,e0]
  unfold pkey lkey
  rw [if_pos rfl]
  split <;> omega
 ·obtain ⟨lo,hi,gq,eq,w1,w2,w3,w4,w5,w6,w7,w8⟩:=old q hq hl
  have hkq : xkey ((Y n).C.getD q 0) q = pkey eq lo hi q:=by
   unfold xkey
   rw [show (Y n).C.getD q 0 / 4 % 2 = eq by omega,show (Y n).C.getD q 0 / 65536 % 16777216 = lo by omega,show (Y n).C.getD q 0 / 1099511627776 = hi by omega]
  rw [hkj,hkq,e1]
  unfold pkey lkey
  rw [if_neg (show ¬ (1 : Int) = 0 by decide)]
  split <;> omega
theorem zEu (h : YTr B N Y m) {a Q : Nat} {T0 : Wk} (hts : (Y a).ts[w]? = some (some (T0,D))) (h0 : OLeft (plOf B N w) T0 (Y a).C Q 0 0) (hidle : ∀ u,u < B.T → u ≠ w → (Y a).ts[u]? = some none) (hds : (Y m).ds.length = (Y a).ds.length) : ∀ {i : Nat},a ≤ i → i ≤ m → (∀ u,u < B.T → u ≠ w → (Y i).ts[u]? = some none) ∧ (Y a).moves ≤ (Y i).moves ∧ ((∃ T,(Y i).ts[w]? = some (some (T,D)) ∧ OLeft (plOf B N w) T (Y i).C Q ((Y i).moves - (Y a).moves) 0) ∨ ((Y i).ts[w]? = some none ∧ (Y i).moves - (Y a).moves ≤ max Q (4 * N + 10)))
 | 0,hai,_=>by
  obtain rfl : a = 0:=by omega
  exact ⟨hidle,Nat.le_refl _,.inl ⟨_,hts,by rw [Nat.sub_self]; exact h0⟩⟩
 | i + 1,hai,hi=>by
  rcases (by omega : a = i + 1 ∨ a ≤ i) with rfl | h1
  ·exact ⟨hidle,Nat.le_refl _,.inl ⟨_,hts,by rw [Nat.sub_self]; exact h0⟩⟩
  ·obtain ⟨g1,g2,g3⟩:=zEu h hts h0 hidle hds h1 (show i ≤ m by omega)
   have q1:=zB3 h h1 (show i ≤ m by omega)
   have q2:=zB3 h (show i ≤ i + 1 by omega) hi
   have q3:=zB3 h hi (Nat.le_refl _)
   have hA:=h.all i (by omega)
   have hfit:=h.fit i (by omega)
   have hhow:=h.how i hi
   have hdz : (Y (i + 1)).ds.length = (Y i).ds.length:=by omega
   generalize Y (i + 1) = Z at hhow hdz ⊢
   cases hhow with
   | rest=>exact ⟨g1,g2,g3⟩
   | pass n hn=>exact ⟨g1,g2,g3⟩
   | call v take kd e x s hw he hk =>
    exfalso
    have h9 : ((Y i).ds ++ [(⟨v,kd,e,x,s,(Y i).moves, -1,false,0,0,0⟩ : Dd)]).length = (Y i).ds.length:=hdz
    rw [List.length_append,List.length_singleton] at h9
    omega
   | step v T q z hw ha =>
    have hvw : v = w:=Classical.byContradiction fun e=>by
     have:=(List.getElem?_eq_some_iff.1 hw).1
     have:=hA.ok.len
     rw [g1 v (by omega) e] at hw
     cases hw
    subst hvw
    refine ⟨fun u hu hn=>by rw [zCi hn]; exact g1 u hu hn,by show (Y a).moves ≤ (Y i).moves + 1; omega, ?_⟩
    rcases g3 with ⟨T1,e1,e2⟩ | ⟨e1,_⟩
    ·rw [e1] at hw
     obtain ⟨rfl,rfl⟩ : T1 = T ∧ D = q:=Prod.mk.inj (Option.some.inj (Option.some.inj hw))
     obtain ⟨k1,_,_,k4,_⟩:=hA.ok.task v _ _ e1
     have hlt:=(List.getElem?_eq_some_iff.1 e1).1
     obtain ⟨f1,f2⟩:=e2.step k1 k4 ha hA.ok.now0 (fun j=>(hfit j).1)
     have hlim : T1.lim (plOf B N v).N Q 0 ≤ max Q (4 * N + 10):=by
      cases T1 with
      | pu k=>exact Nat.le_max_left _ _
      | ge k =>
       show (0 + 1) * (4 * N + 10) ≤ _
       rw [Nat.zero_add,Nat.one_mul]
       exact Nat.le_max_right _ _
     have hm1 : ((Y i).step (plOf B N v) v T1 D z).moves - (Y a).moves = ((Y i).moves - (Y a).moves) + 1:=by
      show (Y i).moves + 1 - (Y a).moves = _
      omega
     by_cases hp : (T1.step (plOf B N v) (Y i).C (Y i).now z).ph = 0
     ·left
      obtain ⟨r1,_⟩:=zDe (w:=v) (i:=D) (Y:=Y i) (P:=plOf B N v) (T:=T1) (z:=z) rfl hp
      refine ⟨_,by rw [r1,List.getElem?_set_self hlt], ?_⟩
      rw [hm1]
      exact f2.resolve_left (fun q=>q hp)
     ·right
      obtain ⟨r1,_⟩:=zCZ (w:=v) (i:=D) (Y:=Y i) (P:=plOf B N v) (T:=T1) (z:=z) rfl hp
      refine ⟨by rw [r1,List.getElem?_set_self hlt], ?_⟩
      rw [hm1]
      exact Nat.le_trans f1 hlim
    ·rw [e1] at hw
     cases hw
end
end
section
open Go.RowKit
def FitN (C : List Int) : Prop:=∀ j,0 ≤ C.getD j 0 ∧ C.getD j 0 ≤ 18446744073709551615
theorem FitN.set {C : List Int} {q : Nat} {y : Int} (h : FitN C) (y0 : 0 ≤ y) (y1 : y ≤ 18446744073709551615) : FitN (C.set q y):=fun j=>by
 rw [List.getD_eq_getElem?_getD,List.getElem?_set]
 split
 ·split
  ·exact ⟨y0,y1⟩
  ·exact ⟨by decide,by decide⟩
 ·rw [← List.getD_eq_getElem?_getD]
  exact h j
theorem zF3 {C0 : List Int} {hz j r : Nat} (h : FitN C0) (hj : j < 1000000) : FitN (tkC C0 hz j r):=by
 have h1:=zFn (h j).1 (h j).2
 unfold tkC
 split
 ·exact h
 ·split
  ·exact h.set (by omega) (by omega)
  ·exact (h.set (by omega) (by omega)).set h1.2.1 h1.2.2
theorem GA.fitN {k : Ge} {C C0 : List Int} {N hz i : Nat} {T : Int} (h : GA k C C0 N hz i T) (f : FitN C0) (hN : N < 1000000) : FitN C:=by
 rcases h.at' with ⟨_,_,hC,_⟩ | ⟨j,r,_,_,_,hj,_,_,hC⟩ | ⟨_,_,_,hC⟩ | ⟨j,_,_,hj,_,_,_,hC⟩
 ·rw [hC]; exact f
 ·rw [hC]; exact zF3 f (by omega)
 ·rw [hC]; exact f
 ·rw [hC]; exact (zF3 f (by omega)).set (by decide) (by decide)
theorem zEh {α : Type} {d : α} {f : α → α} : ∀ l : List α,(l ++ [d]).modify l.length f = l ++ [f d]
 | []=>rfl
 | a :: l=>congrArg (a :: ·) (zEh l)
def gDeed (w : Nat) (e s : Int) (Y : Yd) : Dd:=⟨w,1,e,0,s,Y.moves, -1,false,0,0,0⟩
def LoneG (B : YB) (N : Nat) (Y0 : Yd) (w : Nat) (e s : Int) (Y : Yd) : Prop :=
 ∃ (k : Ge) (i : Nat),GA k Y.C Y0.C N (2 * N + w) i ∧ k.e = e ∧ (∀ u,u < B.T → u ≠ w → Y.ts[u]? = some none) ∧
  ((k.ph = 0 ∧ Y.ts[w]? = some (some (.ge k,Y0.ds.length)) ∧ Y.ds = Y0.ds ++ [gDeed w e s Y0]) ∨
   (k.ph ≠ 0 ∧ Y.ts[w]? = some none ∧ ∃ m : Nat,Y.ds = Y0.ds ++ [(gDeed w e s Y0).over m (.ge k)]))
section
variable {B : YB} {N w j q : Nat} {Y0 Y Y1 : Yd} {e s : Int}
theorem LoneG.start (hc : YCf B N) (hT : (B.T : Int) = B.t) (hl : (Y0.C.length : Int) = 2 * N + 2 * B.t) (hi : ∀ k,k < B.T → Y0.ts[k]? = some none) (hw : w < B.T) (he : e = 0 ∨ e = 1) : LoneG B N Y0 w e s (Y0.call w 1 e 0 s (wkB B N w true e 0 s)):=by
 have hwl:=(List.getElem?_eq_some_iff.1 (hi w hw)).1
 refine ⟨ge0 B.t B.s B.so B.d w e s N,0,GA.start hc.lay hl (by omega) (by omega) (by omega) he,rfl,fun u hu hne=>?_,.inl ⟨rfl, ?_,rfl⟩⟩
 ·show (Y0.ts.set w _)[u]? = _
  rw [List.getElem?_set_ne (fun x=>hne x.symm)]
  exact hi u hu
 ·show (Y0.ts.set w _)[w]? = _
  rw [List.getElem?_set_self hwl]
  rfl
theorem LoneG.step (h : LoneG B N Y0 w e s Y) (f : FitN Y0.C) (hN : N < 1000000) {u i : Nat} {T : Wk} {z : Int} (hu : u < B.T) (hk : Y.ts[u]? = some (some (T,i))) (ha : T.ask Y.C z) : LoneG B N Y0 w e s (Y.step (plOf B N u) u T i z):=by
 obtain ⟨k,n,hg,hke,ho,h2⟩:=h
 by_cases hne : u = w
 ·subst hne
  rcases h2 with ⟨hp,hts,hds⟩ | ⟨hp,hts,_⟩
  ·rw [hts] at hk
   cases hk
   have hg':=hg.step hp ha (hg.fitN f hN)
   have hsame:=k.step_same N (2 * N + u) Y.C z
   have hl:=(List.getElem?_eq_some_iff.1 hts).1
   have e1 : (Wk.ge k).step (plOf B N u) Y.C Y.now z = .ge (k.step N (2 * N + u) Y.C z):=rfl
   have e2 : (Wk.ge k).cells (plOf B N u) Y.C Y.now = k.cells N (2 * N + u) Y.C:=rfl
   by_cases hp' : (k.step N (2 * N + u) Y.C z).ph = 0
   ·have hp2 : ((Wk.ge k).step (plOf B N u) Y.C Y.now z).ph = 0:=hp'
    refine ⟨_,_,by unfold Yd.step; rw [e2]; exact hg',hsame.e.trans hke,fun v hv hvn=>?_,.inl ⟨hp', ?_, ?_⟩⟩
    ·unfold Yd.step
     rw [if_pos hp2]
     show (Y.ts.set u _)[v]? = _
     rw [List.getElem?_set_ne (fun x=>hvn x.symm)]
     exact ho v hv hvn
    ·unfold Yd.step
     rw [if_pos hp2]
     show (Y.ts.set u _)[u]? = _
     rw [List.getElem?_set_self hl]
     rfl
    ·show (if ((Wk.ge k).step (plOf B N u) Y.C Y.now z).ph = 0 then Y.ds else Y.ds.modify Y0.ds.length (fun d=>d.over Y.moves ((Wk.ge k).step (plOf B N u) Y.C Y.now z))) = _
     rw [if_pos hp2]
     exact hds
   ·have hp2 : ¬ ((Wk.ge k).step (plOf B N u) Y.C Y.now z).ph = 0:=hp'
    refine ⟨_,_,by unfold Yd.step; rw [e2]; exact hg',hsame.e.trans hke,fun v hv hvn=>?_,.inr ⟨hp', ?_,Y.moves, ?_⟩⟩
    ·unfold Yd.step
     rw [if_neg hp2]
     show (Y.ts.set u _)[v]? = _
     rw [List.getElem?_set_ne (fun x=>hvn x.symm)]
     exact ho v hv hvn
    ·unfold Yd.step
     rw [if_neg hp2]
     show (Y.ts.set u _)[u]? = _
     rw [List.getElem?_set_self hl]
    ·show (if ((Wk.ge k).step (plOf B N u) Y.C Y.now z).ph = 0 then Y.ds else Y.ds.modify Y0.ds.length (fun d=>d.over Y.moves ((Wk.ge k).step (plOf B N u) Y.C Y.now z))) = _
     rw [if_neg hp2,hds,zEh]
     rfl
  ·rw [hts] at hk
   cases hk
 ·rw [ho u hu hne] at hk
  cases hk
theorem LoneG.tick (f : FitN Y0.C) (hN : N < 1000000) (hT : 0 < B.T) (h : LoneG B N Y0 w e s Y1) (ht : Tick B N Y1 j Y q) : LoneG B N Y0 w e s Y:=by
 induction ht with
 | zero=>exact h
 | skip _ _ ih=>exact ih
 | step _ T i z hk ha ih=>exact ih.step f hN (Nat.mod_lt _ hT) hk ha
theorem zGv {C : List Int} {q : Nat} {x : Int} (h : N ≤ q) : (C.set q x).take N = C.take N:=by
 rw [List.take_set,List.set_eq_of_length_le]
 rw [List.length_take]
 omega
structure LoneOut (N : Nat) (Y0 : Yd) (w : Nat) (e s : Int) (Y : Yd) (d : Dd) : Prop where
 ds : Y.ds = Y0.ds ++ [d]
 who : d.who = w
 kd : d.kd = 1
 de : d.e = e
 fr : d.fr = Y0.moves
 val : ∀ i,i < N → Y.C.getD (N + i) 0 = Y0.C.getD (N + i) 0
 out : (d.ok = false ∧ IsEnd (Y0.C.take N) e (-1) ∧ Y.C.take N = Y0.C.take N) ∨
  (∃ i : Nat,i < N ∧ d.ok = true ∧ d.v = Y0.C.getD (N + i) 0 ∧ IsEnd (Y0.C.take N) e i ∧ Y.C.take N = (Y0.C.take N).set i (tkW (Y0.C.getD i 0)))
theorem LoneG.out (h : LoneG B N Y0 w e s Y) (hw : Y.ts[w]? = some none) : ∃ d,LoneOut N Y0 w e s Y d:=by
 obtain ⟨k,n,hg,hke,ho,h2⟩:=h
 rcases h2 with ⟨_,hts,_⟩ | ⟨hp,hts,m,hds⟩
 ·rw [hts] at hw
  cases hw
 refine ⟨_,hds, ?_, ?_, ?_, ?_, ?_, ?_⟩
 ·unfold Dd.over; split <;> rfl
 ·unfold Dd.over; split <;> rfl
 ·unfold Dd.over; split <;> rfl
 ·unfold Dd.over; split <;> rfl
 ·intro i hi
  rcases hg.cases with ⟨h1,_⟩ | ⟨_,h1,h2,hC⟩ | ⟨i',_,h1,hj,hE,hv,_,hC⟩
  ·exact absurd h1 hp
  ·rw [hC]
  ·rw [hC]
   unfold tkC
   rw [if_neg (by decide),if_neg (by decide),zAF _ (by omega),zAF _ (by omega),zAF _ (by omega)]
 ·rcases hg.cases with ⟨h1,_⟩ | ⟨_,h1,h2,hC⟩ | ⟨i',_,h1,hj,hE,hv,_,hC⟩
  ·exact absurd h1 hp
  ·refine .inl ⟨?_,hke ▸ h2,by rw [hC]⟩
   unfold Dd.over
   rw [if_neg (by show ¬ k.ph = 1; omega)]
   rfl
  ·refine .inr ⟨i',hj, ?_, ?_,hke ▸ hE, ?_⟩
   ·unfold Dd.over
    rw [if_pos (show (Wk.ge k).ph = 1 from h1)]
   ·unfold Dd.over
    rw [if_pos (show (Wk.ge k).ph = 1 from h1)]
    exact hv
   ·rw [hC]
    unfold tkC
    rw [if_neg (by decide),if_neg (by decide),zGv (by omega),List.take_set,zGv (by omega)]
end
end
section
open Go.RowKit
section
variable {B : YB} {N w n : Nat} {Y0 Y : Yd} {e s : Int} {d : Dd} {S : List Nat}
end
end
end Go.Proofs.YtjlpidjilonhfaaGreat
