/- Contracts and plain lemmas that these laws need. No condition. -/

import Derived.Test.YtjlpidjilonhfaaGreatQLI1
import Derived.Test.YtjlpidjilonhfaaGreatQLI4
import Derived.Test.YtjlpidjilonhfaaGreatQLI5
import Derived.Test.YtjlpidjilonhfaaGreatQLI6
namespace Go.Proofs.YtjlpidjilonhfaaGreat
set_option linter.unusedVariables false
set_option maxHeartbeats 8000000
set_option maxRecDepth 100000
section
open Go.RowKit
section
variable {W w w' : World} {l : List Thing}
theorem Hold.objSet (h : Hold W w l) (i : Nat) {b : Nat} {xs : List Value} (hi : l[i]? = some (tObj W.heap.size b xs)) (j : Nat) (u : Value) : Hold W (w.setCell ⟨b,j,none⟩ u) (l.set i (tObj W.heap.size b (xs.set j u))) :=
 h.turn i hi ((Keep.refl _ _).own j u |>.mono (fun q hq=>hq)) (zAP _ _ _) ⟨(h.has i _ hi).1.set j u,(h.has i _ hi).2⟩ (fun q hq=>.inl hq)
theorem Hold.rowSet (h : Hold W w l) (i : Nat) {e : TypeId} {sz n cap g : Nat} {xs : List Value} (hi : l[i]? = some (tRow W.heap.size e sz (.slice (some ⟨g,0,none⟩) n cap) n xs)) (j : Nat) (u : Value) :
  Hold W (w.setCell ⟨g,j,none⟩ u) (l.set i (tRow W.heap.size e sz (.slice (some ⟨g,0,none⟩) n cap) n (xs.set j u))):=by
 have hr : w.ownsRow W.heap.size e sz (.slice (some ⟨g,0,none⟩) n cap) n xs:=h.has i _ hi
 have k : Keep (tRow W.heap.size e sz (.slice (some ⟨g,0,none⟩) n cap) n xs).F w (w.setCell ⟨g,j,none⟩ u):=(Keep.refl _ _).setCell ⟨g,j,none⟩ (by show some g = some g; rfl) u
 exact h.turn i hi k (zA5 _ _ _ _ _ _) (hr.stored j u).1 (fun q hq=>.inl hq)
end
structure YB where
 yb : Nat
 tb : Nat
 p : Nat
 c : Nat
 t : Int
 s : Int
 so : Int
 d : Int
 T : Nat
def YB.list (B : YB) (vd : Value) (Y : Yd) : List Value:=[i64 B.t,i64 B.s,i64 B.so,i64 B.d,pt B.p,.slice (some ⟨B.tb,0,none⟩) B.T B.T,vd,i64 Y.moves,i64 Y.now]
structure YAt (W w : World) (l : List Thing) (B : YB) (Y : Yd) (J : Nat → Nat) (v vd : Value) (X : List Value) : Prop where
 hold : Hold W w l
 mem : l[0]? = some (tMem W.heap.size B.p B.c v Y.C Y.L)
 obj : l[1]? = some (tObj W.heap.size B.yb (B.list vd Y))
 row : l[2]? = some (tObj W.heap.size B.tb X)
 deeds : l[3]? = some (tRow W.heap.size 61 11 vd Y.ds.length (flatD Y.ds))
 hT : (B.T : Int) = B.t
 xl : X.length = B.T * 2
 tl : Y.ts.length = B.T
 idle : ∀ (k : Nat),Y.ts[k]? = some none → X[k * 2]? = some (.pointer none)
 busy : ∀ (k : Nat) (T : Wk) (i : Nat),Y.ts[k]? = some (some (T,i)) → ∃ y,X[k * 2]? = some (pt y.b) ∧ X[k * 2 + 1]? = some (i64 i) ∧ 4 ≤ J k ∧ l[J k]? = some (wT W.heap.size y) ∧ y.T = T
 inj : ∀ (k k' : Nat) (a a' : Wk × Nat),Y.ts[k]? = some (some a) → Y.ts[k']? = some (some a') → k ≠ k' → J k ≠ J k'
def YH (W w : World) (l : List Thing) (B : YB) (Y : Yd) (J : Nat → Nat) : Prop := ∃ v vd X,YAt W w l B Y J v vd X
def YFree (Y : Yd) (J : Nat → Nat) (j : Nat) : Prop:=4 ≤ j ∧ ∀ (k : Nat) (a : Wk × Nat),Y.ts[k]? = some (some a) → J k ≠ j
structure YGo (Y Y' : Yd) (l l' : List Thing) (J J' : Nat → Nat) : Prop where
 len : l.length ≤ l'.length
 keep : ∀ j A,l[j]? = some A → YFree Y J j → l'[j]? = some A
 free : ∀ j,j < l.length → YFree Y J j → YFree Y' J' j
theorem YGo.refl (Y : Yd) (l : List Thing) (J : Nat → Nat) : YGo Y Y l l J J:=⟨Nat.le_refl _,fun _ _ h _=>h,fun _ _ h=>h⟩
theorem YGo.trans {Y Y1 Y2 : Yd} {l l1 l2 : List Thing} {J J1 J2 : Nat → Nat} (a : YGo Y Y1 l l1 J J1) (b : YGo Y1 Y2 l1 l2 J1 J2) : YGo Y Y2 l l2 J J2 :=
 ⟨Nat.le_trans a.len b.len,fun j A h hf=>b.keep j A (a.keep j A h hf) (a.free j (List.getElem?_eq_some_iff.1 h).1 hf),fun j h hf=>b.free j (Nat.lt_of_lt_of_le h a.len) (a.free j h hf)⟩
section
variable {W w w' : World} {l : List Thing} {B : YB} {Y : Yd} {J : Nat → Nat} {v vd : Value} {X : List Value}
theorem YAt.later (h : YAt W w l B Y J v vd X) (e : Below w.heap.size w w') : YAt W w' l B Y J v vd X := { h with hold:=h.hold.later e }
theorem YH.later (h : YH W w l B Y J) (e : Below w.heap.size w w') : YH W w' l B Y J:=by
 obtain ⟨v,vd,X,h⟩:=h
 exact ⟨v,vd,X,h.later e⟩
theorem YH.hold (h : YH W w l B Y J) : Hold W w l:=by
 obtain ⟨v,vd,X,h⟩:=h
 exact h.hold
theorem YH.below (h : YH W w l B Y J) : Below W.heap.size W w:=h.hold.below
theorem YH.size (h : YH W w l B Y J) : W.heap.size ≤ w.heap.size:=h.hold.size
theorem YH.fit (h : YH W w l B Y J) : ∀ j,0 ≤ Y.C.getD j 0 ∧ Y.C.getD j 0 ≤ 18446744073709551615:=by
 obtain ⟨v,vd,X,h⟩:=h
 have hm : IsMem W.heap.size w B.p B.c v Y.C Y.L:=h.hold.has 0 _ h.mem
 exact hm.fit
theorem YH.more (h : YH W w l B Y J) {A : Thing} (e : Below w.heap.size w w') (ok : A.Ok W.heap.size) (hP : A.P w') (hF : ∀ q,A.F q → w.heap.size ≤ q) : YH W w' (l ++ [A]) B Y J:=by
 obtain ⟨v,vd,X,h⟩:=h
 have up : ∀ {i : Nat} {A' : Thing},l[i]? = some A' → (l ++ [A])[i]? = some A':=fun hi=>by rw [List.getElem?_append_left (List.getElem?_eq_some_iff.1 hi).1]; exact hi
 refine ⟨v,vd,X,h.hold.more e ok hP hF,up h.mem,up h.obj,up h.row,up h.deeds,h.hT,h.xl,h.tl,h.idle,fun k T i hk=>?_,h.inj⟩
 obtain ⟨y,a,b,c,d,f⟩:=h.busy k T i hk
 exact ⟨y,a,b,c,up d,f⟩
theorem YH.other (h : YH W w l B Y J) {l' : List Thing} (hl : Hold W w' l') (hk : ∀ j A,l[j]? = some A → ¬ YFree Y J j → l'[j]? = some A) : YH W w' l' B Y J:=by
 obtain ⟨v,vd,X,h⟩:=h
 have low : ∀ {j : Nat},j < 4 → ¬ YFree Y J j:=fun hj hf=>by have:=hf.1; omega
 refine ⟨v,vd,X,hl,hk _ _ h.mem (low (by omega)),hk _ _ h.obj (low (by omega)),hk _ _ h.row (low (by omega)),hk _ _ h.deeds (low (by omega)),h.hT,h.xl,h.tl,h.idle,fun k T i hk'=>?_,h.inj⟩
 obtain ⟨y,a,b,c,d,f⟩:=h.busy k T i hk'
 exact ⟨y,a,b,c,hk _ _ d (fun hf=>hf.2 k _ hk' rfl),f⟩
theorem YAt.objAt (h : YAt W w l B Y J v vd X) : IsObj w B.yb (B.list vd Y):=(h.hold.has 1 _ h.obj).1
theorem YAt.rowAt (h : YAt W w l B Y J v vd X) : IsObj w B.tb X:=(h.hold.has 2 _ h.row).1
theorem YAt.ne (h : YAt W w l B Y J v vd X) : B.tb ≠ B.yb:=fun e=>h.hold.apart 1 2 _ _ h.obj h.row (by omega) B.yb rfl e.symm
theorem YAt.own (h : YAt W w l B Y J v vd X) : w.ownsRow W.heap.size 61 11 vd Y.ds.length (flatD Y.ds):=h.hold.has 3 _ h.deeds
theorem YAt.dne (h : YAt W w l B Y J v vd X) : vd.ownBlock ≠ some B.yb ∧ vd.ownBlock ≠ some B.tb:=⟨fun e=>h.hold.apart 1 3 _ _ h.obj h.deeds (by omega) B.yb rfl e,fun e=>h.hold.apart 2 3 _ _ h.row h.deeds (by omega) B.tb rfl e⟩
theorem YAt.setMoves (h : YAt W w l B Y J v vd X) (m : Nat) : YAt W (w.setCell ⟨B.yb,7,none⟩ (i64 m)) (l.set 1 (tObj W.heap.size B.yb (B.list vd { Y with moves:=m }))) B { Y with moves:=m } J v vd X :=
 ⟨h.hold.objSet 1 h.obj 7 (i64 m),by rw [List.getElem?_set_ne (by omega)]; exact h.mem,List.getElem?_set_self (List.getElem?_eq_some_iff.1 h.obj).1,by rw [List.getElem?_set_ne (by omega)]; exact h.row,by rw [List.getElem?_set_ne (by omega)]; exact h.deeds,h.hT,h.xl,h.tl,h.idle,fun k T i hk=>by
  obtain ⟨y,a,b,c,d,f⟩:=h.busy k T i hk
  exact ⟨y,a,b,c,by rw [List.getElem?_set_ne (by omega)]; exact d,f⟩,h.inj⟩
theorem YAt.setNow (h : YAt W w l B Y J v vd X) (n : Int) : YAt W (w.setCell ⟨B.yb,8,none⟩ (i64 n)) (l.set 1 (tObj W.heap.size B.yb (B.list vd { Y with now:=n }))) B { Y with now:=n } J v vd X :=
 ⟨h.hold.objSet 1 h.obj 8 (i64 n),by rw [List.getElem?_set_ne (by omega)]; exact h.mem,List.getElem?_set_self (List.getElem?_eq_some_iff.1 h.obj).1,by rw [List.getElem?_set_ne (by omega)]; exact h.row,by rw [List.getElem?_set_ne (by omega)]; exact h.deeds,h.hT,h.xl,h.tl,h.idle,fun k T i hk=>by
  obtain ⟨y,a,b,c,d,f⟩:=h.busy k T i hk
  exact ⟨y,a,b,c,by rw [List.getElem?_set_ne (by omega)]; exact d,f⟩,h.inj⟩
theorem YAt.addDeed (h : YAt W w l B Y J v vd X) {w1 : World} {vd' : Value} (dd : Dd) (hG : Grew w w1 W.heap.size 61 11 vd vd' (Y.ds.length + 1) (flatD Y.ds ++ dd.list)) :
  YAt W (w1.setCell ⟨B.yb,6,none⟩ vd') ((l.set 3 (tRow W.heap.size 61 11 vd' (Y.ds.length + 1) (flatD Y.ds ++ dd.list))).set 1 (tObj W.heap.size B.yb (B.list vd' { Y with ds:=Y.ds ++ [dd] }))) B { Y with ds:=Y.ds ++ [dd] } J v vd' X:=by
 have h1:=h.hold.append 3 rfl h.deeds hG
 have e1 : (l.set 3 (tRow W.heap.size 61 11 vd' (Y.ds.length + 1) (flatD Y.ds ++ dd.list)))[1]? = some (tObj W.heap.size B.yb (B.list vd Y)):=by rw [List.getElem?_set_ne (by omega)]; exact h.obj
 refine ⟨h1.objSet 1 e1 6 vd',by rw [List.getElem?_set_ne (by omega),List.getElem?_set_ne (by omega)]; exact h.mem,List.getElem?_set_self (List.getElem?_eq_some_iff.1 e1).1,by rw [List.getElem?_set_ne (by omega),List.getElem?_set_ne (by omega)]; exact h.row, ?_,h.hT,h.xl,h.tl,h.idle,fun k T i hk=>?_,h.inj⟩
 ·rw [List.getElem?_set_ne (by omega),List.getElem?_set_self (List.getElem?_eq_some_iff.1 h.deeds).1]
  show some (tRow _ _ _ _ _ _) = some (tRow _ _ _ _ (Y.ds ++ [dd]).length (flatD (Y.ds ++ [dd])))
  rw [List.length_append,List.length_singleton,zCC]
  simp [flatD]
 ·obtain ⟨y,a,b,c,d,f⟩:=h.busy k T i hk
  exact ⟨y,a,b,c,by rw [List.getElem?_set_ne (by omega),List.getElem?_set_ne (by omega)]; exact d,f⟩
theorem YAt.begin (h : YAt W w l B Y J v vd X) {A : Nat} {w1 : World} {y : WT} {i : Nat} (hw : Y.ts[A]? = some none) (h1 : Hold W w1 (l ++ [wT W.heap.size y])) :
  YAt W ((w1.setCell ⟨B.tb,A * 2,none⟩ (pt y.b)).setCell ⟨B.tb,A * 2 + 1,none⟩ (i64 i)) ((l ++ [wT W.heap.size y]).set 2 (tObj W.heap.size B.tb ((X.set (A * 2) (pt y.b)).set (A * 2 + 1) (i64 i)))) B { Y with ts:=Y.ts.set A (some (y.T,i)) } (fun k=>if k = A then l.length else J k) v vd ((X.set (A * 2) (pt y.b)).set (A * 2 + 1) (i64 i)):=by
 have up : ∀ {j : Nat} {A' : Thing},l[j]? = some A' → (l ++ [wT W.heap.size y])[j]? = some A':=fun hi=>by rw [List.getElem?_append_left (List.getElem?_eq_some_iff.1 hi).1]; exact hi
 have hA : A < B.T:=by have:=(List.getElem?_eq_some_iff.1 hw).1; have:=h.tl; omega
 have h4 : 4 ≤ l.length:=by have:=(List.getElem?_eq_some_iff.1 h.deeds).1; omega
 have h2:=h1.objSet 2 (up h.row) (A * 2) (pt y.b)
 have h3:=h2.objSet 2 (List.getElem?_set_self (List.getElem?_eq_some_iff.1 (up h.row)).1) (A * 2 + 1) (i64 i)
 rw [List.set_set] at h3
 have hxl:=h.xl
 have Xget : ∀ j,j ≠ A * 2 → j ≠ A * 2 + 1 → ((X.set (A * 2) (pt y.b)).set (A * 2 + 1) (i64 i))[j]? = X[j]?:=fun j a b=>by rw [List.getElem?_set_ne (fun e=>b e.symm),List.getElem?_set_ne (fun e=>a e.symm)]
 refine ⟨h3,by rw [List.getElem?_set_ne (by omega)]; exact up h.mem,by rw [List.getElem?_set_ne (by omega)]; exact up h.obj,List.getElem?_set_self (List.getElem?_eq_some_iff.1 (up h.row)).1,by rw [List.getElem?_set_ne (by omega)]; exact up h.deeds,h.hT,by rw [List.length_set,List.length_set]; exact hxl,by show (Y.ts.set A _).length = _; rw [List.length_set]; exact h.tl,fun k hk=>?_,fun k T j hk=>?_,fun k k' a a' hk hk' hne=>?_⟩
 ·rcases yset hk with ⟨_,he,_⟩ | ⟨hne,hk⟩
  ·cases he
  ·rw [Xget _ (by omega) (by omega)]
   exact h.idle k hk
 ·rcases yset hk with ⟨rfl,he,_⟩ | ⟨hne,hk⟩
  ·cases he
   refine ⟨y,by rw [List.getElem?_set_ne (by omega),List.getElem?_set_self (by omega)],List.getElem?_set_self (by rw [List.length_set]; omega),by simp only [if_true]; exact h4, ?_,rfl⟩
   simp only [if_true]
   rw [List.getElem?_set_ne (by omega),List.getElem?_append_right (Nat.le_refl _),Nat.sub_self]
   rfl
  ·obtain ⟨y',a,b,c,d,f⟩:=h.busy k T j hk
   have hk2 : ¬ k = A:=fun e=>hne e.symm
   refine ⟨y',by rw [Xget _ (by omega) (by omega)]; exact a,by rw [Xget _ (by omega) (by omega)]; exact b,by simp only [hk2,if_false]; exact c, ?_,f⟩
   simp only [hk2,if_false]
   rw [List.getElem?_set_ne (by omega)]
   exact up d
 ·have lt : ∀ k a,k ≠ A → (Y.ts.set A (some (y.T,i)))[k]? = some (some a) → J k < l.length:=fun k a hn hk=>by
   rcases yset hk with ⟨e,_,_⟩ | ⟨_,hk⟩
   ·exact absurd e.symm hn
   ·obtain ⟨y',_,_,_,d,_⟩:=h.busy k a.1 a.2 hk
    exact (List.getElem?_eq_some_iff.1 d).1
  by_cases e : k = A
  ·have e' : ¬ k' = A:=fun e'=>hne (e.trans e'.symm)
   have:=lt k' a' e' hk'
   simp only [e,e',if_true,if_false]
   omega
  ·by_cases e' : k' = A
   ·have:=lt k a e hk
    simp only [e,e',if_true,if_false]
    omega
   ·simp only [e,e',if_false]
    rcases yset hk with ⟨x,_,_⟩ | ⟨_,hk⟩
    ·exact absurd x.symm e
    ·rcases yset hk' with ⟨x,_,_⟩ | ⟨_,hk'⟩
     ·exact absurd x.symm e'
     ·exact h.inj k k' a a' hk hk' hne
theorem YAt.end (h : YAt W w l B Y J v vd X) {A : Nat} (hA : A < B.T) :
  YAt W (w.setCell ⟨B.tb,A * 2,none⟩ (.pointer none)) (l.set 2 (tObj W.heap.size B.tb (X.set (A * 2) (.pointer none)))) B { Y with ts:=Y.ts.set A none } J v vd (X.set (A * 2) (.pointer none)):=by
 have h2:=h.hold.objSet 2 h.row (A * 2) (.pointer none)
 have hxl:=h.xl
 refine ⟨h2,by rw [List.getElem?_set_ne (by omega)]; exact h.mem,by rw [List.getElem?_set_ne (by omega)]; exact h.obj,List.getElem?_set_self (List.getElem?_eq_some_iff.1 h.row).1,by rw [List.getElem?_set_ne (by omega)]; exact h.deeds,h.hT,by rw [List.length_set]; exact hxl,by show (Y.ts.set A _).length = _; rw [List.length_set]; exact h.tl,fun k hk=>?_,fun k T j hk=>?_,fun k k' a a' hk hk' hne=>?_⟩
 ·rcases yset hk with ⟨rfl,_,_⟩ | ⟨hne,hk⟩
  ·exact List.getElem?_set_self (by omega)
  ·rw [List.getElem?_set_ne (by omega)]
   exact h.idle k hk
 ·rcases yset hk with ⟨rfl,he,_⟩ | ⟨hne,hk⟩
  ·cases he
  ·obtain ⟨y',a,b,c,d,f⟩:=h.busy k T j hk
   exact ⟨y',by rw [List.getElem?_set_ne (by omega)]; exact a,by rw [List.getElem?_set_ne (by omega)]; exact b,c,by rw [List.getElem?_set_ne (by omega)]; exact d,f⟩
 ·rcases yset hk with ⟨_,he,_⟩ | ⟨_,hk⟩
  ·cases he
  ·rcases yset hk' with ⟨_,he,_⟩ | ⟨_,hk'⟩
   ·cases he
   ·exact h.inj k k' a a' hk hk' hne
theorem YAt.gone (h : YAt W w l B Y J v vd X) {A i : Nat} {T T' : Wk} {y y' : WT} {v' : Value} {C' : List Int} {L' : List Ev} (hw : Y.ts[A]? = some (some (T,i))) (hj : l[J A]? = some (wT W.heap.size y)) (hy : y'.b = y.b) (hT : y'.T = T') (hX : X[A * 2]? = some (pt y.b))
  (h1 : Hold W w' ((l.set 0 (tMem W.heap.size B.p B.c v' C' L')).set (J A) (wT W.heap.size y'))) :
  YAt W w' ((l.set 0 (tMem W.heap.size B.p B.c v' C' L')).set (J A) (wT W.heap.size y')) B { Y with C:=C',L:=L',ts:=Y.ts.set A (some (T',i)) } J v' vd X:=by
 obtain ⟨y0,a0,b0,c0,d0,f0⟩:=h.busy A T i hw
 have hA : A < Y.ts.length:=(List.getElem?_eq_some_iff.1 hw).1
 refine ⟨h1,by rw [List.getElem?_set_ne (by omega)]; exact List.getElem?_set_self (List.getElem?_eq_some_iff.1 h.mem).1,by rw [List.getElem?_set_ne (by omega),List.getElem?_set_ne (by omega)]; exact h.obj,by rw [List.getElem?_set_ne (by omega),List.getElem?_set_ne (by omega)]; exact h.row,by rw [List.getElem?_set_ne (by omega),List.getElem?_set_ne (by omega)]; exact h.deeds,h.hT,h.xl,by show (Y.ts.set A _).length = _; rw [List.length_set]; exact h.tl,fun k hk=>?_,fun k T2 j hk=>?_,fun k k' a a' hk hk' hne=>?_⟩
 ·rcases yset hk with ⟨_,he,_⟩ | ⟨_,hk⟩
  ·cases he
  ·exact h.idle k hk
 ·rcases yset hk with ⟨rfl,he,_⟩ | ⟨hne,hk⟩
  ·cases he
   exact ⟨y',by rw [hy]; exact hX,b0,c0,List.getElem?_set_self (by rw [List.length_set]; exact (List.getElem?_eq_some_iff.1 hj).1),hT⟩
  ·obtain ⟨y2,a,b,c,d,f⟩:=h.busy k T2 j hk
   have:=h.inj k A _ _ hk hw (fun e=>hne e.symm)
   exact ⟨y2,a,b,c,by rw [List.getElem?_set_ne (by omega),List.getElem?_set_ne (by omega)]; exact d,f⟩
 ·have back : ∀ q b,(Y.ts.set A (some (T',i)))[q]? = some (some b) → ∃ b',Y.ts[q]? = some (some b'):=fun q b hq=>by
   rcases yset hq with ⟨rfl,_,_⟩ | ⟨_,hq⟩
   ·exact ⟨_,hw⟩
   ·exact ⟨_,hq⟩
  obtain ⟨b,hb⟩:=back k a hk
  obtain ⟨b',hb'⟩:=back k' a' hk'
  exact h.inj k k' b b' hb hb' hne
theorem YAt.setDeed (h : YAt W w l B Y J v vd X) {i g cap : Nat} {dd dd' : Dd} (hv : vd = .slice (some ⟨g,0,none⟩) Y.ds.length cap) (hd : Y.ds[i]? = some dd) (hs : dd' = { dd with till:=dd'.till,ok:=dd'.ok,v:=dd'.v,lo:=dd'.lo,hi:=dd'.hi }) :
  ∃ l',YAt W (((((w.setCell ⟨g,i * 11 + 6,none⟩ (i64 dd'.till)).setCell ⟨g,i * 11 + 7,none⟩ (.bool dd'.ok)).setCell ⟨g,i * 11 + 8,none⟩ (u64 dd'.v)).setCell ⟨g,i * 11 + 9,none⟩ (i64 dd'.lo)).setCell ⟨g,i * 11 + 10,none⟩ (i64 dd'.hi)) l' B { Y with ds:=Y.ds.set i dd' } J v vd X ∧ l'.length = l.length ∧ ∀ j A,4 ≤ j → l[j]? = some A → l'[j]? = some A:=by
 subst hv
 have hd3:=(List.getElem?_eq_some_iff.1 h.deeds).1
 have h1:=h.hold.rowSet 3 h.deeds (i * 11 + 6) (i64 dd'.till)
 have h2:=h1.rowSet 3 (List.getElem?_set_self hd3) (i * 11 + 7) (.bool dd'.ok)
 rw [List.set_set] at h2
 have h3:=h2.rowSet 3 (List.getElem?_set_self hd3) (i * 11 + 8) (u64 dd'.v)
 rw [List.set_set] at h3
 have h4:=h3.rowSet 3 (List.getElem?_set_self hd3) (i * 11 + 9) (i64 dd'.lo)
 rw [List.set_set] at h4
 have h5:=h4.rowSet 3 (List.getElem?_set_self hd3) (i * 11 + 10) (i64 dd'.hi)
 rw [List.set_set] at h5
 have hf : (((((flatD Y.ds).set (i * 11 + 6) (i64 dd'.till)).set (i * 11 + 7) (.bool dd'.ok)).set (i * 11 + 8) (u64 dd'.v)).set (i * 11 + 9) (i64 dd'.lo)).set (i * 11 + 10) (i64 dd'.hi) = flatD (Y.ds.set i dd') :=
  zDf [(6,i64 dd'.till),(7,.bool dd'.ok),(8,u64 dd'.v),(9,i64 dd'.lo),(10,i64 dd'.hi)] hd (fun a ha=>by
   simp only [List.mem_cons,List.not_mem_nil,or_false] at ha
   rcases ha with rfl | rfl | rfl | rfl | rfl <;> simp) (by rw [hs]; rfl)
 rw [hf] at h5
 refine ⟨_,⟨h5,by rw [List.getElem?_set_ne (by omega)]; exact h.mem, ?_,by rw [List.getElem?_set_ne (by omega)]; exact h.row, ?_,h.hT,h.xl,h.tl,h.idle,fun k T j hk=>?_,h.inj⟩,List.length_set,fun j A hj hA=>by rw [List.getElem?_set_ne (by omega)]; exact hA⟩
 ·rw [List.getElem?_set_ne (by omega)]
  exact h.obj
 ·rw [List.getElem?_set_self hd3]
  show some (tRow _ _ _ _ _ _) = some (tRow _ _ _ _ (Y.ds.set i dd').length (flatD (Y.ds.set i dd')))
  rw [List.length_set]
 ·obtain ⟨y',a,b,c,d,f⟩:=h.busy k T j hk
  exact ⟨y',a,b,c,by rw [List.getElem?_set_ne (by omega)]; exact d,f⟩
end
end
section
open Go.RowKit
structure AtY (w : World) (B : YB) (vd : Value) (moves : Nat) (now : Int) : Prop where
 c0 : w.cell? ⟨B.yb,0,none⟩ = some (i64 B.t)
 c1 : w.cell? ⟨B.yb,1,none⟩ = some (i64 B.s)
 c2 : w.cell? ⟨B.yb,2,none⟩ = some (i64 B.so)
 c3 : w.cell? ⟨B.yb,3,none⟩ = some (i64 B.d)
 c4 : w.cell? ⟨B.yb,4,none⟩ = some (pt B.p)
 c5 : w.cell? ⟨B.yb,5,none⟩ = some (.slice (some ⟨B.tb,0,none⟩) B.T B.T)
 c6 : w.cell? ⟨B.yb,6,none⟩ = some vd
 c7 : w.cell? ⟨B.yb,7,none⟩ = some (i64 moves)
 c8 : w.cell? ⟨B.yb,8,none⟩ = some (i64 now)
theorem AtY.of {w : World} {B : YB} {vd : Value} {Y : Yd} (h : IsObj w B.yb (B.list vd Y)) : AtY w B vd Y.moves Y.now :=
 ⟨h.at' 0 _ rfl,h.at' 1 _ rfl,h.at' 2 _ rfl,h.at' 3 _ rfl,h.at' 4 _ rfl,h.at' 5 _ rfl,h.at' 6 _ rfl,h.at' 7 _ rfl,h.at' 8 _ rfl⟩
section
variable {W w w' : World} {l : List Thing} {B : YB} {Y : Yd} {J : Nat → Nat} {v vd : Value} {X : List Value}
theorem YAt.cells (h : YAt W w l B Y J v vd X) : AtY w B vd Y.moves Y.now:=AtY.of h.objAt
theorem zBP (h : YAt W w l B Y J v vd X) (k : Nat) (hk : k < B.T) :
  Calls Tryz.prog 21 #[pt B.yb,i64 k] w fun r w'=>r = .returned (.pointer (some ⟨B.tb,k * 2,none⟩)) ∧ w = w':=by
 have c5:=h.cells.c5
 have hk' : (k : Int) < (B.T : Int):=by omega
 clear h
 go_enter Tryz.func21,Tryz.ntmps21
 go_wp2
 go_ret
 exact ⟨rfl,rfl⟩
theorem zCl (h : YAt W w l B Y J v vd X) (k : Int) (hk : k < 0 ∨ B.t ≤ k) :
  Calls Tryz.prog 21 #[pt B.yb,i64 k] w fun r w'=>r = .returned (.pointer none) ∧ w = w':=by
 have c5:=h.cells.c5
 have hT:=h.hT
 rw [← hT] at hk
 clear h hT
 rcases hk with hk | hk
 all_goals
  go_enter Tryz.func21,Tryz.ntmps21
  go_wp2
  go_ret
  exact ⟨rfl,rfl⟩
theorem zEG (h : YAt W w l B Y J v vd X) (k : Nat) (hk : k < B.T) (q : Option (Wk × Nat)) (hq : Y.ts[k]? = some q) :
  Calls Tryz.prog 25 #[pt B.yb,i64 k] w fun r w'=>r = .returned (.bool q.isSome) ∧ w = w':=by
 have HT:=zIo (zBP h k hk)
 cases q with
 | none =>
  have hx:=h.rowAt.at' _ _ (h.idle k hq)
  clear h
  go_enter Tryz.func25,Tryz.ntmps25
  go_wp2_with fail
  refine HT.out.mono ?_
  rintro r w' ⟨rfl,rfl⟩
  go_wp2
  go_ret
  exact ⟨rfl,rfl⟩
 | some a =>
  obtain ⟨y,a1,_⟩:=h.busy k a.1 a.2 hq
  have hx:=h.rowAt.at' _ _ a1
  clear h a1
  go_enter Tryz.func25,Tryz.ntmps25
  go_wp2_with fail
  refine HT.out.mono ?_
  rintro r w' ⟨rfl,rfl⟩
  go_wp2
  go_ret
  exact ⟨rfl,rfl⟩
theorem zG4 (h : YAt W w l B Y J v vd X) (k : Int) (hk : k < 0 ∨ B.t ≤ k) :
  Calls Tryz.prog 25 #[pt B.yb,i64 k] w fun r w'=>r = .returned (.bool false) ∧ w = w':=by
 have HT:=zIo (zCl h k hk)
 clear h
 go_enter Tryz.func25,Tryz.ntmps25
 go_wp2_with fail
 refine HT.out.mono ?_
 rintro r w' ⟨rfl,rfl⟩
 go_wp2
 go_ret
 exact ⟨rfl,rfl⟩
theorem zFc (h : YAt W w l B Y J v vd X) (n : Int) (hn : n ≤ 0) :
  Calls Tryz.prog 37 #[pt B.yb,i64 n] w fun r w'=>r = .returned (.tuple #[]) ∧ w = w':=by
 clear h
 go_enter Tryz.func37,Tryz.ntmps37
 go_wp2
 exact bodyPost_ret (v:=.tuple #[]) (by simp [results,Tryz.results37,go_sem]) rfl ⟨rfl,rfl⟩
theorem zCV (h : YAt W w l B Y J v vd X) (n : Int) (hn : 0 < n) (n0 : 0 ≤ Y.now) (n1 : Y.now ≤ yMax) :
  Calls Tryz.prog 37 #[pt B.yb,i64 n] w fun r w'=>r = .returned (.tuple #[]) ∧ ∃ l',YAt W w' l' B (Y.pass n) J v vd X ∧ l'.length = l.length ∧ ∀ j A,4 ≤ j → l[j]? = some A → l'[j]? = some A:=by
 have hm : yMax = 1099511627776:=rfl
 have c8:=h.cells.c8
 have f8:=h.objAt.fz 8
 have HF:=zIo (fun u=>(YAt.later (h.setNow u) (Below.refl _ _).drew))
 have HL:=zIo (fun (A : Thing) j (hj : 4 ≤ j) (B' : Thing) (hl : l[j]? = some B')=>show (l.set 1 A)[j]? = some B' by rw [List.getElem?_set_ne (by omega)]; exact hl)
 clear h
 have hv : IntKind.i64.wrap (Y.now + min n (IntKind.i64.wrap (1099511627776 - Y.now))) = (Y.pass n).now:=by
  have hi : IntKind.i64.wrap (1099511627776 - Y.now) = 1099511627776 - Y.now:=IntWalk.i64_in _ (by omega)
  show _ = if n > yMax - Y.now then yMax else Y.now + n
  rw [hi,hm]
  split
  ·rw [show min n (1099511627776 - Y.now) = 1099511627776 - Y.now by omega,IntWalk.i64_in _ (by omega)]
   omega
  ·rw [show min n (1099511627776 - Y.now) = n by omega,IntWalk.i64_in _ (by omega)]
 have HV:=zIo hv
 clear hv hm
 go_enter Tryz.func37,Tryz.ntmps37
 go_wp2_with fail
 go_region_law (fail)
 all_goals
  go_wp2
  go_end0
  rw [HV.out]
  exact ⟨rfl,_,HF.out _,List.length_set,fun j A hj hA=>HL.out _ j hj A hA⟩
theorem ymoves (h : YAt W w l B Y J v vd X) : ∃ l',YAt W (w.setCell ⟨B.yb,7,none⟩ (.int .i64 ((Y.moves : Int) + 1))) l' B { Y with moves:=Y.moves + 1 } J v vd X ∧ l'.length = l.length ∧ ∀ j A,4 ≤ j → l[j]? = some A → l'[j]? = some A :=
 ⟨_,h.setMoves (Y.moves + 1),List.length_set,fun j A hj hA=>by rw [List.getElem?_set_ne (by omega)]; exact hA⟩
def YStay (l l' : List Thing) (e : Nat) : Prop:=l.length ≤ l'.length ∧ ∀ j A,4 ≤ j → j ≠ e → l[j]? = some A → l'[j]? = some A
theorem YStay.same {l l' l2 : List Thing} {e : Nat} (h : YStay l l' e) (hl : l2.length = l'.length) (hk : ∀ j A,4 ≤ j → l'[j]? = some A → l2[j]? = some A) : YStay l l2 e :=
 ⟨by rw [hl]; exact h.1,fun j A hj he hA=>hk j A hj (h.2 j A hj he hA)⟩
structure AtTh (w : World) (B : YB) (k b i : Nat) : Prop where
 d0 : w.cell? ⟨B.tb,k * 2,none⟩ = some (pt b)
 d1 : w.cell? ⟨B.tb,k * 2 + 1,none⟩ = some (i64 i)
theorem zEx {P : Pl} {k i : Nat} {T : Wk} {z : Int} (n1 : Y.now ≤ yMax) (hp : (T.step P Y.C Y.now z).ph = 0) :
  Y.step P k T i z = Yd.pass { C:=T.cells P Y.C Y.now,L:=Y.L ++ T.ev P Y.C Y.now,now:=Y.now,moves:=Y.moves + 1,ts:=Y.ts.set k (some (T.step P Y.C Y.now z,i)),ds:=Y.ds } 1:=by
 unfold Yd.step Yd.pass Yd.tick
 rw [if_pos hp,if_pos hp]
 have : (if Y.now < yMax then Y.now + 1 else yMax) = if (1 : Int) > yMax - Y.now then yMax else Y.now + 1:=by split <;> split <;> omega
 rw [this]
theorem zGz {P : Pl} {k i : Nat} {T : Wk} {z : Int} {dd : Dd} (n1 : Y.now ≤ yMax) (hp : (T.step P Y.C Y.now z).ph ≠ 0) (hd : Y.ds[i]? = some dd) :
  Y.step P k T i z = Yd.pass { C:=T.cells P Y.C Y.now,L:=Y.L ++ T.ev P Y.C Y.now,now:=Y.now,moves:=Y.moves + 1,ts:=Y.ts.set k none,ds:=Y.ds.set i (dd.over Y.moves (T.step P Y.C Y.now z)) } 1:=by
 unfold Yd.step Yd.pass Yd.tick
 rw [if_neg hp,if_neg hp,zBU hd]
 have : (if Y.now < yMax then Y.now + 1 else yMax) = if (1 : Int) > yMax - Y.now then yMax else Y.now + 1:=by split <;> split <;> omega
 rw [this]
theorem Dd.over_form (d : Dd) (m : Nat) (T : Wk) : d.over m T = { d with till:=(d.over m T).till,ok:=(d.over m T).ok,v:=(d.over m T).v,lo:=(d.over m T).lo,hi:=(d.over m T).hi } ∧ (d.over m T).till = m:=by
 unfold Dd.over
 split <;> exact ⟨rfl,rfl⟩
theorem own_at {w : World} {base : Nat} {e : TypeId} {sz n : Nat} {v : Value} {xs : List Value} (h : w.ownsRow base e sz v n xs) (hn : 0 < n) : ∃ g cap,v = .slice (some ⟨g,0,none⟩) n cap:=by
 rcases h.2 with ⟨_,h0⟩ | ⟨g,cap,cur,rfl,_⟩
 ·omega
 ·exact ⟨g,cap,rfl⟩
theorem zGF {pl : Nat → Pl} {n t k i : Nat} {T : Wk} (h : YAt W w l B Y J v vd X) (ho : YOk pl t n Y) (hn : n < 1000000) (hw : Y.ts[k]? = some (some (T,i))) :
  Calls Tryz.prog 24 #[pt B.yb,i64 k] w fun r w'=>r = .returned (.bool true) ∧ ∃ z,T.ask Y.C z ∧ ∃ l',YH W w' l' B (Y.step (pl k) k T i z) J ∧ YStay l l' (J k):=by
 obtain ⟨o1,o2,o3,o4,dd,o5,o6⟩:=ho.task k T i hw
 have n0:=ho.now0
 have n1:=ho.now1
 have hmv:=ho.most
 have hds:=ho.nds
 have hL:=ho.nL
 have hk : k < B.T:=by have:=(List.getElem?_eq_some_iff.1 hw).1; have:=h.tl; omega
 obtain ⟨y,a1,a2,a3,a4,a5⟩:=h.busy k T i hw
 have hB:=zEG h k hk _ hw
 have HB:=zIo hB
 have HTh:=zIo (zBP h k hk)
 have HFit:=zIo (YH.fit ⟨v,vd,X,h⟩)
 have hilt : i < Y.ds.length:=(List.getElem?_eq_some_iff.1 o5).1
 obtain ⟨g,cap,rfl⟩:=own_at h.own (by omega)
 have HY:=zIo (YAt.later h (Below.refl _ _).drew)
 have HA1:=zIo a1
 have HA2:=zIo a2
 have HA4:=zIo a4
 have HO1:=zIo o1
 have HO2:=zIo o2
 have HO5:=zIo o5
 have HO6:=zIo o6
 have HW:=zIo hw
 clear hB h a1 a2 a4 o1 ho o2 o3 o4 o5 o6 hw
 subst a5
 go_enter Tryz.func24,Tryz.ntmps24
 go_wp2_with fail
 refine HB.out.mono ?_
 rintro r w' ⟨rfl,rfl⟩
 simp only [Option.isSome_some]
 clear HB
 go_wp2_with fail
 refine HTh.out.mono ?_
 rintro r w' ⟨rfl,rfl⟩
 clear HTh
 go_wp2_with fail
 refine zAD ((fun w'=>AtY w' B (.slice (some ⟨g,0,none⟩) Y.ds.length cap) Y.moves Y.now ∧ AtTh w' B k y.b i)) ((0,true) :: (1,true) :: (2,true) :: (3,true) :: (4,true) :: (5,true) :: (6,true) :: (7,true) :: (8,true) :: (9,true) :: (10,true) :: (11,true) :: (12,false) :: []) (by kernel_rfl) (by kernel_rfl) (by kernel_rfl) (by decide) (fun _ _ _ _ _ h=>h) (⟨HY.out.cells,HY.out.rowAt.at' _ _ HA1.out,HY.out.rowAt.at' _ _ HA2.out⟩) ?_
 repeat ((first | (refine zAC (v := ?_) rfl ?_ ?_ ?_; rotate_left 1; rfl; focus (rintro wS ⟨⟨c0,c1,c2,c3,c4,c5,c6,c7,c8⟩,⟨d0,d1⟩⟩; go_simp <;> with_reducible rfl)) | (refine zAB rfl ?_ ?_; rfl)); try simp only [Act.put,qset])
 refine zAH rfl (fun K hK=>?_)
 go_simp
 go_at_call 40
 refine (HY.out.hold.tstep 0 (J k) (by omega) HY.out.mem HA4.out HO1.out n0 (by omega)).mono ?_
 rintro r w1 ⟨z,hz,rfl,v1,B1,hH1⟩
 (try go_wp2_with fail)
 have HY1:=zIo (HY.out.gone (y':=⟨y.b,B1,y.kd,y.e,y.x,y.s,y.T.step (pl k) Y.C Y.now z⟩) HW.out HA4.out rfl rfl HA1.out hH1)
 have HOk:=zIo (HO1.out.next HO2.out hn hz n0 HFit.out).1
 have HST : Hid (YStay l ((l.set 0 (tMem W.heap.size B.p B.c v1 (y.T.cells (pl k) Y.C Y.now) (Y.L ++ y.T.ev (pl k) Y.C Y.now))).set (J k) (wT W.heap.size ⟨y.b,B1,y.kd,y.e,y.x,y.s,y.T.step (pl k) Y.C Y.now z⟩)) (J k)) :=
  ⟨by rw [List.length_set,List.length_set]; exact Nat.le_refl _,fun j A hj he hA=>by rw [List.getElem?_set_ne (fun h=>he h.symm),List.getElem?_set_ne (by omega)]; exact hA⟩
 have HJ : Hid (((l.set 0 (tMem W.heap.size B.p B.c v1 (y.T.cells (pl k) Y.C Y.now) (Y.L ++ y.T.ev (pl k) Y.C Y.now))).set (J k) (wT W.heap.size ⟨y.b,B1,y.kd,y.e,y.x,y.s,y.T.step (pl k) Y.C Y.now z⟩))[J k]? = some (wT W.heap.size ⟨y.b,B1,y.kd,y.e,y.x,y.s,y.T.step (pl k) Y.C Y.now z⟩)) :=
  List.getElem?_set_self (by rw [List.length_set]; exact (List.getElem?_eq_some_iff.1 HA4.out).1)
 clear hH1 HY HO1 HO2 HFit HW HA4
 generalize ((l.set 0 (tMem W.heap.size B.p B.c v1 (y.T.cells (pl k) Y.C Y.now) (Y.L ++ y.T.ev (pl k) Y.C Y.now))).set (J k) (wT W.heap.size ⟨y.b,B1,y.kd,y.e,y.x,y.s,y.T.step (pl k) Y.C Y.now z⟩)) = l1 at HY1 HST HJ
 refine hK.out _ _ (⟨HY1.out.cells,HY1.out.rowAt.at' _ _ HA1.out,HY1.out.rowAt.at' _ _ HA2.out⟩) (fun _=>?_)
 (try simp only [Act.put,qset])
 clear hK K
 refine zAJ ?_
 by_cases hp : (y.T.step (pl k) Y.C Y.now z).ph = 0
 ·have e : ((y.T.step (pl k) Y.C Y.now z).ph != 0) = false:=by simp [hp]
  rw [e]
  obtain ⟨c0,c1,c2,c3,c4,c5,c6,c7,c8⟩:=HY1.out.cells
  have f7:=HY1.out.objAt.fz 7
  have HP:=zIo hp
  obtain ⟨l2,hM,hMl,hMk⟩:=ymoves HY1.out
  have HM:=zIo hM
  have HMk:=zIo hMk
  clear e hp hM hMk
  go_wp2_with fail
  refine (zCV HM.out 1 (by decide) n0 n1).mono ?_
  rintro r w2 ⟨rfl,l3,hQ,hQl,hQk⟩
  have HQ:=zIo hQ
  have HQk:=zIo hQk
  clear hQ hQk c0 c1 c2 c3 c4 c5 c6 c7 c8 f7 HM
  go_wp2
  go_ret
  exact ⟨rfl,z,hz,l3,⟨_,_,_,by rw [zEx n1 HP.out]; exact HQ.out⟩,(HST.out.same hMl HMk.out).same hQl HQk.out⟩
 ·have e : ((y.T.step (pl k) Y.C Y.now z).ph != 0) = true:=by simp [hp]
  rw [e]
  have HP:=zIo hp
  have hilt' : (i : Int) < (Y.ds.length : Int):=by omega
  have HY2:=zIo (YAt.later HY1.out (Below.refl _ _).drew)
  clear e hp
  go_wp2_with fail
  refine zAD ((fun w'=>AtY w' B (.slice (some ⟨g,0,none⟩) Y.ds.length cap) Y.moves Y.now ∧ AtTh w' B k y.b i)) ((0,true) :: (1,true) :: (2,true) :: (3,true) :: (4,true) :: (5,true) :: (6,true) :: (7,true) :: (8,true) :: (9,true) :: []) (by kernel_rfl) (by kernel_rfl) (by kernel_rfl) (by decide) (fun _ _ _ _ _ h=>h) (⟨HY2.out.cells,HY2.out.rowAt.at' _ _ HA1.out,HY2.out.rowAt.at' _ _ HA2.out⟩) ?_
  repeat ((first | (refine zAC (v := ?_) rfl ?_ ?_ ?_; rotate_left 1; rfl; focus (rintro wS ⟨⟨c0,c1,c2,c3,c4,c5,c6,c7,c8⟩,⟨d0,d1⟩⟩; go_simp <;> with_reducible rfl)) | (refine zAB rfl ?_ ?_; rfl)); try simp only [Act.put,qset])
  refine zAJ ?_
  replace HY2:=zIo (YAt.later HY2.out (Below.refl _ _).drew)
  go_wp2_with fail
  refine zAD ((fun w'=>AtY w' B (.slice (some ⟨g,0,none⟩) Y.ds.length cap) Y.moves Y.now ∧ AtTh w' B k y.b i)) ((0,true) :: (1,true) :: (2,true) :: (3,true) :: (4,true) :: (5,true) :: (6,true) :: (7,true) :: (8,true) :: (9,true) :: (10,false) :: (11,true) :: (12,true) :: (13,false) :: (14,true) :: (15,true) :: (16,false) :: []) (by kernel_rfl) (by kernel_rfl) (by kernel_rfl) (by decide) (fun _ _ _ _ _ h=>h) (⟨HY2.out.cells,HY2.out.rowAt.at' _ _ HA1.out,HY2.out.rowAt.at' _ _ HA2.out⟩) ?_
  repeat ((first | (refine zAC (v := ?_) rfl ?_ ?_ ?_; rotate_left 1; rfl; focus (rintro wS ⟨⟨c0,c1,c2,c3,c4,c5,c6,c7,c8⟩,⟨d0,d1⟩⟩; go_simp <;> with_reducible rfl)) | (refine zAB rfl ?_ ?_; rfl)); try simp only [Act.put,qset])
  refine zAH rfl (fun K hK=>?_)
  go_simp
  go_at_call 41
  refine ((HY2.out.hold.task 0 (J k) (by omega) HY2.out.mem HJ.out).reply HOk.out).mono ?_
  rintro r w2 ⟨rfl,hb⟩
  (try go_wp2_with fail)
  replace HY2:=zIo (YAt.later HY2.out hb)
  clear hb
  rw [Dd.over_reply dd Y.moves (y.T.step (pl k) Y.C Y.now z) HO6.out.2.2]
  have HDS:=zIo (Dd.over_form dd Y.moves (y.T.step (pl k) Y.C Y.now z))
  have HSO:=zIo (zGz (P:=pl k) (k:=k) n1 HP.out HO5.out)
  generalize dd.over Y.moves (y.T.step (pl k) Y.C Y.now z) = dd' at HDS HSO ⊢
  have hgy : g ≠ B.yb:=fun e=>HY2.out.dne.1 (e ▸ rfl)
  have hgt : g ≠ B.tb:=fun e=>HY2.out.dne.2 (e ▸ rfl)
  have hcell : ∀ j u,j < 11 → dd.list[j]? = some u → w2.cell? ⟨g,i * 11 + j,none⟩ = some u:=fun j u hj hu=>(HY2.out.own.cellAt _ (by show i * 11 + j < Y.ds.length * 11; omega)).trans ((zDI HO5.out hj).trans hu)
  have hfz:=fun j=>HY2.out.own.frozenAt j
  have e6:=hcell 6 _ (by decide) rfl
  have e7:=hcell 7 _ (by decide) rfl
  have e8:=hcell 8 _ (by decide) rfl
  have e9:=hcell 9 _ (by decide) rfl
  have e10:=hcell 10 _ (by decide) rfl
  have f6:=hfz (i * 11 + 6)
  have f7:=hfz (i * 11 + 7)
  have f8:=hfz (i * 11 + 8)
  have f9:=hfz (i * 11 + 9)
  have f10:=hfz (i * 11 + 10)
  clear hcell hfz
  have HYB:=zIo HY2.out.objAt
  have HTB:=zIo HY2.out.rowAt
  refine hK.out _ _ (⟨HY2.out.cells,HY2.out.rowAt.at' _ _ HA1.out,HY2.out.rowAt.at' _ _ HA2.out⟩) (fun _=>?_)
  (try simp only [Act.put,qset])
  clear hK K
  repeat ((first | (refine zAC (v := ?_) rfl ?_ ?_ ?_; rotate_left 1; rfl; focus (rintro wS ⟨⟨c0,c1,c2,c3,c4,c5,c6,c7,c8⟩,⟨d0,d1⟩⟩; go_simp <;> with_reducible rfl)) | (refine zAB rfl ?_ ?_; rfl)); try simp only [Act.put,qset])
  refine zAH rfl (fun K hK=>?_)
  go_simp
  have HYB1:=zIo (HYB.out.other (i * 11 + 6) (i64 Y.moves) hgy)
  have HTB1:=zIo (HTB.out.other (i * 11 + 6) (i64 Y.moves) hgt)
  refine hK.out _ _ (⟨AtY.of HYB1.out,HTB1.out.at' _ _ HA1.out,HTB1.out.at' _ _ HA2.out⟩) (fun _=>?_)
  (try simp only [Act.put,qset])
  clear hK K
  repeat ((first | (refine zAC (v := ?_) rfl ?_ ?_ ?_; rotate_left 1; rfl; focus (rintro wS ⟨⟨c0,c1,c2,c3,c4,c5,c6,c7,c8⟩,⟨d0,d1⟩⟩; go_simp <;> with_reducible rfl)) | (refine zAB rfl ?_ ?_; rfl)); try simp only [Act.put,qset])
  refine zAH rfl (fun K hK=>?_)
  go_simp
  have HYB2:=zIo ((((HYB1.out.other (i * 11 + 7) (.bool dd'.ok) hgy).other (i * 11 + 8) (u64 dd'.v) hgy).other (i * 11 + 9) (i64 dd'.lo) hgy).other (i * 11 + 10) (i64 dd'.hi) hgy)
  have HTB2:=zIo ((((HTB1.out.other (i * 11 + 7) (.bool dd'.ok) hgt).other (i * 11 + 8) (u64 dd'.v) hgt).other (i * 11 + 9) (i64 dd'.lo) hgt).other (i * 11 + 10) (i64 dd'.hi) hgt)
  refine hK.out _ _ (⟨AtY.of HYB2.out,HTB2.out.at' _ _ HA1.out,HTB2.out.at' _ _ HA2.out⟩) (fun _=>?_)
  (try simp only [Act.put,qset])
  clear hK K
  refine zAJ ?_
  obtain ⟨l2,hD,hDl,hDk⟩:=HY2.out.setDeed (dd':=dd') rfl HO5.out HDS.out.1
  rw [HDS.out.2] at hD
  have HD:=zIo hD
  have HDk:=zIo hDk
  clear hD hDk HYB HTB HYB1 HTB1 HYB2 HTB2 e6 e7 e8 e9 e10 f6 f7 f8 f9 f10 HY1 HY2
  obtain ⟨c0,c1,c2,c3,c4,c5,c6,c7,c8⟩:=HD.out.cells
  have f7:=HD.out.objAt.fz 7
  have d0:=HD.out.rowAt.at' _ _ HA1.out
  have g0:=HD.out.rowAt.fz (k * 2)
  have hty:=HD.out.ne
  obtain ⟨l3,hM,hMl,hMk⟩:=ymoves (HD.out.end hk)
  have HM:=zIo hM
  have HMk:=zIo hMk
  clear hM hMk
  go_wp2_with fail
  refine (zCV HM.out 1 (by decide) n0 n1).mono ?_
  rintro r w3 ⟨rfl,l4,hQ,hQl,hQk⟩
  have HQ:=zIo hQ
  have HQk:=zIo hQk
  clear hQ hQk c0 c1 c2 c3 c4 c5 c6 c7 c8 f7 d0 g0 HM HD
  go_wp2
  go_ret
  refine ⟨rfl,z,hz,l4,⟨_,_,_,by have hq:=HQ.out; rw [List.set_set] at hq; rw [HSO.out]; exact hq⟩,((HST.out.same hDl HDk.out).same (hMl.trans (by rw [List.length_set])) (fun j A hj hA=>HMk.out j A hj ?_)).same hQl HQk.out⟩
  rw [List.getElem?_set_ne (by omega)]
  exact hA
structure YCf (B : YB) (N : Nat) : Prop where
 lay : Lay B.t B.s N
 o0 : 0 ≤ B.so
 o1 : B.so ≤ 4
 d0 : 0 ≤ B.d
 d1 : B.d ≤ 100
def plOf (B : YB) (N : Nat) (k : Nat) : Pl:=⟨N,(k : Int) * B.s,2 * N + B.T,2 * N,2 * N + k⟩
theorem YCf.own {B : YB} {N k : Nat} (h : YCf B N) (hT : (B.T : Int) = B.t) (hk : k < B.T) : 0 ≤ (k : Int) * B.s ∧ (k : Int) * B.s + B.s ≤ N:=by
 have s1:=h.lay.s1
 have e:=h.lay.eq
 have h1 : 0 ≤ (k : Int) * B.s:=Int.mul_nonneg (by omega) (by omega)
 have h2 : ((k : Int) + 1) * B.s ≤ B.t * B.s:=Int.mul_le_mul_of_nonneg_right (by omega) (by omega)
 rw [Int.add_mul,Int.one_mul] at h2
 omega
abbrev wkB (B : YB) (N k : Nat) (take : Bool) (e x s : Int) : Wk:=wk0 B.t B.s B.so B.d k take e x s ((k : Int) * B.s) N
theorem zGN (h : YAt W w l B Y J v vd X) (k : Int) (hk : k < 0 ∨ B.t ≤ k) (kd e x s : Int) :
  Calls Tryz.prog 9 #[pt B.yb,i64 k,callV kd e x s] w fun r w'=>r = .returned (i64 1) ∧ Below w.heap.size w w':=by
 have hB0:=zAA (Below.refl w.heap.size w) (.cells #[i64 kd,i64 e,u64 x,i64 s] 48)
 have HT:=zIo (zCl (h.later hB0) k hk)
 have HB0:=zIo hB0
 clear h hB0
 go_enter Tryz.func9,Tryz.ntmps9
 go_wp2_with fail
 refine HT.out.mono ?_
 rintro r w' ⟨rfl,rfl⟩
 go_wp2
 go_ret
 exact ⟨rfl,HB0.out⟩
theorem zEU (h : YAt W w l B Y J v vd X) (k : Nat) (hk : k < B.T) (kd e x s : Int) (hc : ¬ ((kd = 0 ∨ kd = 1) ∧ (e = 0 ∨ e = 1))) :
  Calls Tryz.prog 9 #[pt B.yb,i64 k,callV kd e x s] w fun r w'=>r = .returned (i64 1) ∧ Below w.heap.size w w':=by
 have hB0:=zAA (Below.refl w.heap.size w) (.cells #[i64 kd,i64 e,u64 x,i64 s] 48)
 have HT:=zIo (zBP (h.later hB0) k hk)
 have HB0:=zIo hB0
 have HR:=fun w=>zBk kd e x s w
 rw [decide_eq_false hc] at HR
 replace HR:=zIo HR
 clear h hB0
 go_enter Tryz.func9,Tryz.ntmps9
 go_wp2_with fail
 refine HT.out.mono ?_
 rintro r w' ⟨rfl,rfl⟩
 go_wp2_with fail
 refine (HR.out _).mono ?_
 rintro r w' ⟨rfl,hb⟩
 have HB1:=zIo (zAE HB0.out hb)
 clear hb
 go_wp2
 go_ret
 exact ⟨rfl,HB1.out⟩
theorem zFD (h : YAt W w l B Y J v vd X) (k : Nat) (q : Wk × Nat) (hq : Y.ts[k]? = some (some q)) (kd e x s : Int) (hc : (kd = 0 ∨ kd = 1) ∧ (e = 0 ∨ e = 1)) :
  Calls Tryz.prog 9 #[pt B.yb,i64 k,callV kd e x s] w fun r w'=>r = .returned (i64 2) ∧ Below w.heap.size w w':=by
 have hk : k < B.T:=by have:=(List.getElem?_eq_some_iff.1 hq).1; have:=h.tl; omega
 have hB0:=zAA (Below.refl w.heap.size w) (.cells #[i64 kd,i64 e,u64 x,i64 s] 48)
 have HT:=zIo (zBP (h.later hB0) k hk)
 have HB0:=zIo hB0
 have HR:=fun w=>zAu kd e x s w hc.1 hc.2
 replace HR:=zIo HR
 obtain ⟨y,a1,_⟩:=h.busy k q.1 q.2 hq
 have HX:=zIo ((h.later hB0).rowAt)
 have HA1:=zIo a1
 clear h hB0 hq hc a1
 go_enter Tryz.func9,Tryz.ntmps9
 go_wp2_with fail
 refine HT.out.mono ?_
 rintro r w' ⟨rfl,rfl⟩
 go_wp2_with fail
 refine (HR.out _).mono ?_
 rintro r w' ⟨rfl,hb⟩
 have HB1:=zIo (zAE HB0.out hb)
 have d0:=(HX.out.later hb).at' _ _ HA1.out
 clear hb
 go_wp2
 go_ret
 exact ⟨rfl,HB1.out⟩
structure AtQ (w : World) (b : Nat) (kd e x s : Int) : Prop where
 q0 : w.cell? ⟨b,0,none⟩ = some (i64 kd)
 q1 : w.cell? ⟨b,1,none⟩ = some (i64 e)
 q2 : w.cell? ⟨b,2,none⟩ = some (u64 x)
 q3 : w.cell? ⟨b,3,none⟩ = some (i64 s)
theorem AtQ.of {w : World} {b : Nat} {kd e x s : Int} (h : IsObj w b [i64 kd,i64 e,u64 x,i64 s]) : AtQ w b kd e x s:=⟨h.at' 0 _ rfl,h.at' 1 _ rfl,h.at' 2 _ rfl,h.at' 3 _ rfl⟩
theorem src_dd (w W : World) (d : Dd) (h : W.heap = (w.alloc (.cells d.list.toArray 61)).heap) : Src W 11 (some ⟨w.heap.size,0,none⟩) 1 d.list :=
 have k:=zBC w d.list 61 11 1 rfl d.one
 ⟨k.nil,k.len,fun ad had j u hj=>(World.cell?_of_block (w:=w.alloc _) (by rw [h])).trans (k.at' ad had j u hj),k.one⟩
theorem YAt.grew {W' w1 : World} {v' : Value} {n : Nat} {xs : List Value} (h : YAt W w l B Y J v vd X) (hW : Below w.heap.size w W') (hG : Grew W' w1 W.heap.size 61 11 vd v' n xs) : w1.cell? ⟨B.yb,6,none⟩ = some vd ∧ w1.frozen? ⟨B.yb,6,none⟩ = false:=by
 have h':=h.later hW
 have hne:=h.dne.1
 exact ⟨hG.grown.cell h'.cells.c6 (fun e=>hne e.symm),(World.frozen?_of_block (a:=⟨B.yb,6,none⟩) (hG.grown.block B.yb h'.objAt.lt (fun e=>hne e.symm))).trans (h'.objAt.fz 6)⟩
theorem zFu {N k : Nat} (hc : YCf B N) (h : YAt W w l B Y J v vd X) (take : Bool) {kd : Int} (hkd : kdI take = kd) (e x s : Int) (he : e = 0 ∨ e = 1) (hw : Y.ts[k]? = some none) (hds : Y.ds.length ≤ Y.moves) (hm : Y.moves < 1000000) :
  Calls Tryz.prog 9 #[pt B.yb,i64 k,callV kd e x s] w fun r w'=>r = .returned (i64 0) ∧ ∃ l' J',YH W w' l' B (Y.call k kd e x s (wkB B N k take e x s)) J' ∧ YGo Y (Y.call k kd e x s (wkB B N k take e x s)) l l' J J':=by
 have hk : k < B.T:=by have:=(List.getElem?_eq_some_iff.1 hw).1; have:=h.tl; omega
 obtain ⟨m0,m1⟩:=hc.own h.hT hk
 have hkt : (k : Int) < B.t:=by have:=h.hT; omega
 have hB0:=zAA (Below.refl w.heap.size w) (.cells #[i64 kd,i64 e,u64 x,i64 s] 48)
 have hO0:=IsObj.made w [i64 kd,i64 e,u64 x,i64 s] 48
 have HT:=zIo (zBP (h.later hB0) k hk)
 have HR:=fun w=>zAu kd e x s w (by cases take; exact .inl hkd.symm; exact .inr hkd.symm) he
 replace HR:=zIo HR
 have hidle:=h.idle k hw
 have hxl:=h.xl
 obtain ⟨xv,hxv⟩ : ∃ xv,X[k * 2 + 1]? = some xv:=⟨_,List.getElem?_eq_getElem (by omega)⟩
 obtain ⟨A,cap,rfl⟩:=zAK h.own
 have HNE:=zIo (show B.tb ≠ w.heap.size from Nat.ne_of_lt h.rowAt.lt)
 have HY:=zIo (h.later hB0)
 have HI:=zIo hidle
 have HXV:=zIo hxv
 have HW:=zIo hw
 have HO:=zIo hO0
 clear h hB0 hw hidle hO0 hxv hxl
 go_enter Tryz.func9,Tryz.ntmps9
 go_wp2_with fail
 refine HT.out.mono ?_
 rintro r w' ⟨rfl,rfl⟩
 go_wp2_with fail
 refine (HR.out _).mono ?_
 rintro r w1 ⟨rfl,hb⟩
 have HY1:=zIo (YAt.later HY.out hb)
 have HO1:=zIo (HO.out.later hb)
 have d0:=HY1.out.rowAt.at' _ _ HI.out
 clear hb HY HO HT
 go_wp2_with fail
 clear d0
 replace HY1:=zIo (YAt.later HY1.out (Below.refl _ _).drew)
 replace HO1:=zIo (HO1.out.later (Below.refl _ _).drew)
 generalize w.heap.size = cb at HO1 HNE ⊢
 have hne:=HNE.out
 refine zAD ((fun w'=>AtY w' B (.slice A Y.ds.length cap) Y.moves Y.now ∧ AtQ w' cb kd e x s)) ((0,true) :: (1,true) :: (2,true) :: (3,true) :: (4,true) :: (5,true) :: (6,true) :: (8,true) :: (9,true) :: (10,true) :: (11,true) :: (12,true) :: (7,false) :: (13,true) :: (14,true) :: (15,false) :: []) (by kernel_rfl) (by kernel_rfl) (by kernel_rfl) (by decide) (fun _ _ _ _ _ h=>h) (⟨HY1.out.cells,AtQ.of HO1.out⟩) ?_
 repeat ((first | (refine zAC (v := ?_) rfl ?_ ?_ ?_; rotate_left 1; rfl; focus (rintro wS ⟨⟨c0,c1,c2,c3,c4,c5,c6,c7,c8⟩,⟨q0,q1,q2,q3⟩⟩; go_simp <;> with_reducible rfl)) | (refine zAB rfl ?_ ?_; rfl)); try simp only [Act.put,qset])
 refine zAH rfl (fun K hK=>?_)
 go_simp
 go_at_call 23
 refine (HY1.out.hold.tnew (x:=x) (start:=s) take hkd hc.lay (by omega) hkt rfl m0 m1 he).mono ?_
 rintro r w3 ⟨b,B1,rfl,hH3,hb3,hn3⟩
 (try go_wp2_with fail)
 have HH3:=zIo hH3
 have HY3:=zIo (YAt.later HY1.out hb3)
 have HO3:=zIo (HO1.out.later hb3)
 have d0:=HY3.out.rowAt.at' _ _ HI.out
 have d1:=HY3.out.rowAt.at' _ _ HXV.out
 have f0:=HY3.out.rowAt.fz (k * 2)
 have f1:=HY3.out.rowAt.fz (k * 2 + 1)
 clear hH3 hb3
 refine hK.out _ _ (⟨HY3.out.cells,AtQ.of HO3.out⟩) (fun _=>?_)
 (try simp only [Act.put,qset])
 clear hK K
 repeat ((first | (refine zAC (v := ?_) rfl ?_ ?_ ?_; rotate_left 1; rfl; focus (rintro wS ⟨⟨c0,c1,c2,c3,c4,c5,c6,c7,c8⟩,⟨q0,q1,q2,q3⟩⟩; go_simp <;> with_reducible rfl)) | (refine zAB rfl ?_ ?_; rfl)); try simp only [Act.put,qset])
 refine zAH rfl (fun K hK=>?_)
 go_simp
 have HYB:=zIo ((HY3.out.objAt.other (a:=B.tb) (k * 2) (pt b) HY3.out.ne).other (a:=B.tb) (k * 2 + 1) (i64 Y.ds.length) HY3.out.ne)
 have HOB:=zIo ((HO3.out.other (a:=B.tb) (k * 2) (pt b) hne).other (a:=B.tb) (k * 2 + 1) (i64 Y.ds.length) hne)
 refine hK.out _ _ (⟨AtY.of HYB.out,AtQ.of HOB.out⟩) (fun _=>?_)
 (try simp only [Act.put,qset])
 clear hK K
 refine zAJ ?_
 have HYb : Hid (YAt W ((w3.setCell ⟨B.tb,k * 2,none⟩ (.pointer (some ⟨b,0,none⟩))).setCell ⟨B.tb,k * 2 + 1,none⟩ (.int .i64 (Y.ds.length : Nat))) _ B { Y with ts:=Y.ts.set k (some (wkB B N k take e x s,Y.ds.length)) } (fun j=>if j = k then l.length else J j) v (.slice A Y.ds.length cap) _):=zIo (HY1.out.begin (i:=Y.ds.length) HW.out HH3.out)
 have HOB' : Hid (IsObj ((w3.setCell ⟨B.tb,k * 2,none⟩ (.pointer (some ⟨b,0,none⟩))).setCell ⟨B.tb,k * 2 + 1,none⟩ (.int .i64 (Y.ds.length : Nat))) cb [i64 kd,i64 e,u64 x,i64 s]):=HOB
 have HK : Hid (∀ j A',4 ≤ j → l[j]? = some A' → ((l ++ [wT W.heap.size ⟨b,B1,kd,e,x,s,wkB B N k take e x s⟩]).set 2 (tObj W.heap.size B.tb ((X.set (k * 2) (pt b)).set (k * 2 + 1) (i64 Y.ds.length))))[j]? = some A'):=zIo (fun j A' hj hA=>by rw [List.getElem?_set_ne (by omega),List.getElem?_append_left (List.getElem?_eq_some_iff.1 hA).1]; exact hA)
 have HLN : Hid (((l ++ [wT W.heap.size ⟨b,B1,kd,e,x,s,wkB B N k take e x s⟩]).set 2 (tObj W.heap.size B.tb ((X.set (k * 2) (pt b)).set (k * 2 + 1) (i64 Y.ds.length)))).length = l.length + 1):=zIo (by rw [List.length_set,List.length_append]; rfl)
 clear d0 d1 f0 f1 HYB HO3 HO1 HH3 HY3 HY1 HOB hne
 rename_i xx1 xx2
 clear xx1 xx2
 generalize ((w3.setCell ⟨B.tb,k * 2,none⟩ (.pointer (some ⟨b,0,none⟩))).setCell ⟨B.tb,k * 2 + 1,none⟩ (.int .i64 (Y.ds.length : Nat))) = w4 at HYb HOB' ⊢
 generalize ((l ++ [wT W.heap.size ⟨b,B1,kd,e,x,s,wkB B N k take e x s⟩]).set 2 (tObj W.heap.size B.tb ((X.set (k * 2) (pt b)).set (k * 2 + 1) (i64 Y.ds.length)))) = l4 at HYb HK HLN
 generalize ((X.set (k * 2) (pt b)).set (k * 2 + 1) (i64 Y.ds.length)) = X4 at HYb
 obtain ⟨c0,c1,c2,c3,c4,c5,c6,c7,c8⟩:=HYb.out.cells
 obtain ⟨q0,q1,q2,q3⟩:=AtQ.of HOB'.out
 have hlty:=HYb.out.objAt.lt
 have hltc:=HOB'.out.lt
 clear HOB'
 go_wp2_with fail
 go_region_law (refine zBH rfl _ _ 54 rfl W.heap.size 61 _ 11 88 zGy (.slice A Y.ds.length cap) Y.ds.length (flatD Y.ds) rfl ?_ (some ⟨w4.heap.size,0,none⟩) 1 1 (Dd.list ⟨k,kd,e,x,s,Y.moves, -1,false,0,0,0⟩) rfl ?_ (by unfold maxLen; omega) (by omega) ?_ ?_; (focus exact (HYb.out.later (by first | exact (zAA (Below.refl _ _) _).drew | exact zAA (Below.refl _ _).drew _)).own); (focus exact src_dd w4 _ ⟨k,kd,e,x,s,Y.moves, -1,false,0,0,0⟩ rfl); (focus exact (HYb.out.later (by first | exact (zAA (Below.refl _ _) _).drew | exact zAA (Below.refl _ _).drew _)).hold.size); intro vd' w5 hG; have HG:=HYb.out.grew (by first | exact (zAA (Below.refl _ _) _).drew | exact zAA (Below.refl _ _).drew _) hG; obtain ⟨c6',f6'⟩:=HG; obtain ⟨A',cap',rfl⟩:=zAK hG.own; replace hG:=zIo hG)
 all_goals
  have HD:=zIo ((HYb.out.later (by first | exact (zAA (Below.refl _ _) _).drew | exact zAA (Below.refl _ _).drew _)).addDeed ⟨k,kd,e,x,s,Y.moves, -1,false,0,0,0⟩ hG.out)
  obtain ⟨l6,hM,hMl,hMk⟩:=ymoves HD.out
  have HM:=zIo hM
  have HMk:=zIo hMk
  clear c0 c1 c2 c3 c4 c5 c6 c7 c8 q0 q1 q2 q3 c6' f6' hG hM hMk HYb
  have c7:=HD.out.cells.c7
  have f7:=HD.out.objAt.fz 7
  clear HD
  go_wp2
  go_ret
  refine ⟨rfl,l6,_,⟨_,_,_,HM.out⟩, ?_,fun j A1 hj hf=>?_,fun j hj hf=>⟨hf.1,fun k1 a1 hk1=>?_⟩⟩
  ·rw [hMl,List.length_set,List.length_set,HLN.out]
   omega
  ·refine HMk.out j A1 hf.1 ?_
   rw [List.getElem?_set_ne (by have:=hf.1; omega),List.getElem?_set_ne (by have:=hf.1; omega)]
   exact HK.out j A1 hf.1 hj
  ·rcases yset hk1 with ⟨e1,_,_⟩ | ⟨e1,hk1⟩
   ·simp only [e1.symm,if_true]
    omega
   ·have e2 : ¬ k1 = k:=fun e=>e1 e.symm
    simp only [e2,if_false]
    exact hf.2 k1 a1 hk1
end
end
section
open Go.RowKit
section
variable {W w w' : World} {l : List Thing} {B : YB} {Y : Yd} {J : Nat → Nat} {v vd : Value} {X : List Value}
theorem zFU {R : Value → World → Prop} {wb : Nat} (h : YAt W w l B Y J v vd X) (hin : ∀ w1,Below w.heap.size w w1 → Calls Tryz.prog 28 #[.pointer (some ⟨wb,0,none⟩)] w1 fun r w' => ∃ u,r = .returned u ∧ R u w') :
  Calls Tryz.prog 27 #[pt B.yb,.func (.func 28) #[] #[.pointer (some ⟨wb,0,none⟩)]] w fun r w' => ∃ u,r = .returned u ∧ R u w':=by
 have c4:=h.cells.c4
 have HIN:=zIo hin
 clear h hin
 go_enter Tryz.func27,Tryz.ntmps27
 go_wp2_with fail
 refine (HIN.out _ (by first | exact Below.refl _ _ | exact zAA (Below.refl _ _) _)).mono ?_
 rintro r w1 ⟨u,rfl,hR⟩
 have HR:=zIo hR
 clear hR HIN
 go_wp2
 go_ret
 exact ⟨_,rfl,HR.out⟩
theorem zGJ {wb : Nat} (h : YAt W w l B Y J v vd X) (hin : ∀ w1,Below w.heap.size w w1 → Calls Tryz.prog 20 #[.pointer (some ⟨wb,0,none⟩)] w1 fun r w'=>r = .returned (cf B.t B.s B.so B.d) ∧ Below w1.heap.size w1 w') :
  Calls Tryz.prog 19 #[pt B.yb,.func (.func 20) #[] #[.pointer (some ⟨wb,0,none⟩)]] w fun r w'=>r = .returned (cf B.t B.s B.so B.d) ∧ Below w.heap.size w w':=by
 have c4:=h.cells.c4
 have HIN:=zIo hin
 have HO:=zIo (IsObj.made w [i64 0,i64 0,i64 0,i64 0] 26)
 have hB0:=zAA (Below.refl w.heap.size w) (.cells #[i64 0,i64 0,i64 0,i64 0] 26)
 have HB0:=zIo hB0
 have hlt:=h.objAt.lt
 clear h hin hB0
 go_enter Tryz.func19,Tryz.ntmps19
 go_wp2_with fail
 refine (HIN.out _ HB0.out).mono ?_
 rintro r w1 ⟨rfl,hb⟩
 have HB1:=zIo (zAE HB0.out hb)
 have HO1:=zIo (HO.out.later hb)
 have q0:=HO1.out.at' 0 _ rfl
 have q1:=HO1.out.at' 1 _ rfl
 have q2:=HO1.out.at' 2 _ rfl
 have q3:=HO1.out.at' 3 _ rfl
 have f0:=HO1.out.fz 0
 have f1:=HO1.out.fz 1
 have f2:=HO1.out.fz 2
 have f3:=HO1.out.fz 3
 clear hb HIN HB0 HO
 go_wp2
 have HO5:=zIo ((((HO1.out.set 0 (i64 B.t)).set 1 (i64 B.s)).set 2 (i64 B.so)).set 3 (i64 B.d))
 have HB5 : Below w.heap.size w ((((w1.setCell ⟨w.heap.size,0,none⟩ (i64 B.t)).setCell ⟨w.heap.size,1,none⟩ (i64 B.s)).setCell ⟨w.heap.size,2,none⟩ (i64 B.so)).setCell ⟨w.heap.size,3,none⟩ (i64 B.d)):=zAG (zAG (zAG (zAG HB1.out (by simp) _) (by simp) _) (by simp) _) (by simp) _
 generalize ((((w1.setCell ⟨w.heap.size,0,none⟩ (i64 B.t)).setCell ⟨w.heap.size,1,none⟩ (i64 B.s)).setCell ⟨w.heap.size,2,none⟩ (i64 B.so)).setCell ⟨w.heap.size,3,none⟩ (i64 B.d)) = w5 at HO5 HB5 ⊢
 have r0:=HO5.out.at' 0 _ rfl
 have r1:=HO5.out.at' 1 _ rfl
 have r2:=HO5.out.at' 2 _ rfl
 have r3:=HO5.out.at' 3 _ rfl
 exact bodyPost_ret (v:=cf B.t B.s B.so B.d) (by simp [results,Tryz.results19,go_sem,r0,r1,r2,r3]) rfl ⟨rfl,HB5⟩
theorem zBv (h : YAt W w l B Y J v vd X) :
  Calls Tryz.prog 7 #[pt B.yb] w fun r w'=>r = .returned (cf B.t B.s B.so B.d) ∧ Below w.heap.size w w':=by
 have hB0:=zAA (zAA (Below.refl w.heap.size w) (.cells #[pt B.yb] 32)) (.cells #[i64 0,i64 0,i64 0,i64 0] 26)
 have HY:=zIo (h.later hB0)
 have HO : Hid (IsObj ((w.alloc (.cells #[pt B.yb] 32)).alloc (.cells #[.int .i64 0,.int .i64 0,.int .i64 0,.int .i64 0] 26)) w.heap.size [pt B.yb]):=zIo ((IsObj.made w [pt B.yb] 32).later (zAA (Below.refl _ _) (.cells #[i64 0,i64 0,i64 0,i64 0] 26)))
 have HC : Hid (IsObj ((w.alloc (.cells #[pt B.yb] 32)).alloc (.cells #[.int .i64 0,.int .i64 0,.int .i64 0,.int .i64 0] 26)) (w.heap.size + 1) [i64 0,i64 0,i64 0,i64 0]):=zIo (by have h:=IsObj.made (w.alloc (.cells #[pt B.yb] 32)) [i64 0,i64 0,i64 0,i64 0] 26; simp only [World.size_alloc] at h; exact h)
 have HB0 : Hid (Below w.heap.size w ((w.alloc (.cells #[pt B.yb] 32)).alloc (.cells #[.int .i64 0,.int .i64 0,.int .i64 0,.int .i64 0] 26))):=zIo hB0
 clear h hB0
 go_enter Tryz.func7,Tryz.ntmps7
 go_wp2_with fail
 generalize ((w.alloc (.cells #[pt B.yb] 32)).alloc (.cells #[.int .i64 0,.int .i64 0,.int .i64 0,.int .i64 0] 26)) = w0 at HY HO HC HB0 ⊢
 refine (zGJ (wb:=w.heap.size) HY.out (fun w1 hb=>?_)).mono ?_
 ·have HY1:=zIo (HY.out.later hb)
  have q0:=(HO.out.later hb).at' 0 _ rfl
  have hltb : w.heap.size < w1.heap.size:=(HO.out.later hb).lt
  have hlty:=HY1.out.objAt.lt
  obtain ⟨c0,c1,c2,c3,c4,c5,c6,c7,c8⟩:=HY1.out.cells
  have HO1:=zIo (IsObj.made w1 [i64 0,i64 0,i64 0,i64 0] 26)
  have HB1:=zIo (zAA (Below.refl w1.heap.size w1) (.cells #[i64 0,i64 0,i64 0,i64 0] 26))
  clear HY HO HB0 hb HC
  go_enter Tryz.func20,Tryz.ntmps20
  go_wp2
  exact bodyPost_ret (v:=cf B.t B.s B.so B.d) (by simp [results,Tryz.results20,go_sem]) rfl ⟨rfl,zAA (Below.refl _ _) _⟩
 ·rintro r w2 ⟨rfl,hb⟩
  have HB1:=zIo (zAE HB0.out hb)
  have HO1:=zIo (HC.out.later hb)
  clear hb
  have q0:=HO1.out.at' 0 _ rfl
  have q1:=HO1.out.at' 1 _ rfl
  have q2:=HO1.out.at' 2 _ rfl
  have q3:=HO1.out.at' 3 _ rfl
  have f0:=HO1.out.fz 0
  have f1:=HO1.out.fz 1
  have f2:=HO1.out.fz 2
  have f3:=HO1.out.fz 3
  go_wp2
  have HO5:=zIo ((((HO1.out.set 0 (i64 B.t)).set 1 (i64 B.s)).set 2 (i64 B.so)).set 3 (i64 B.d))
  have HB5 : Below w.heap.size w ((((w2.setCell ⟨w.heap.size + 1,0,none⟩ (i64 B.t)).setCell ⟨w.heap.size + 1,1,none⟩ (i64 B.s)).setCell ⟨w.heap.size + 1,2,none⟩ (i64 B.so)).setCell ⟨w.heap.size + 1,3,none⟩ (i64 B.d)):=zAG (zAG (zAG (zAG HB1.out (by simp) _) (by simp) _) (by simp) _) (by simp) _
  generalize ((((w2.setCell ⟨w.heap.size + 1,0,none⟩ (i64 B.t)).setCell ⟨w.heap.size + 1,1,none⟩ (i64 B.s)).setCell ⟨w.heap.size + 1,2,none⟩ (i64 B.so)).setCell ⟨w.heap.size + 1,3,none⟩ (i64 B.d)) = w5 at HO5 HB5 ⊢
  have r0:=HO5.out.at' 0 _ rfl
  have r1:=HO5.out.at' 1 _ rfl
  have r2:=HO5.out.at' 2 _ rfl
  have r3:=HO5.out.at' 3 _ rfl
  exact bodyPost_ret (v:=cf B.t B.s B.so B.d) (by simp [results,Tryz.results7,go_sem,r0,r1,r2,r3]) rfl ⟨rfl,HB5⟩
def DeedsPost (L : List Dd) (w : World) (r : Ending) (w' : World) : Prop :=
 ∃ v,r = .returned v ∧ w'.ownsRow w.heap.size 61 11 v L.length (flatD L) ∧ Below w.heap.size w w'
theorem zE9 (base : Nat) (w : World) (v : Value) (L : List Dd) (h : w.ownsRow base 61 11 v L.length (flatD L)) (hL : L.length ≤ 1000000000) :
  Calls Tryz.prog 29 #[v] w (DeedsPost L w):=by
 rcases h.2 with ⟨rfl,h0⟩ | ⟨g,cap,cur,rfl,_,_⟩
 ·have hl : L = []:=List.eq_nil_of_length_eq_zero h0
  subst hl
  clear h h0
  have q:=fun W=>run_eql_nil_slice (P:=Tryz.prog) W 54 61 none 0 0 0 0 Tryz.underlying54
  go_enter Tryz.func29,Tryz.ntmps29
  go_wp2
  go_ret
  exact ⟨_,rfl,World.ownsRow_nil _ _ _ _,Below.refl _ _⟩
 ·have hs:=zHt h
  have Hs:=zIo hs
  clear hs h
  have q:=fun W=>Lib.run_eql_slice_nil (P:=Tryz.prog) W 54 61 (some ⟨g,0,none⟩) L.length cap 0 0 Tryz.underlying54
  go_enter Tryz.func29,Tryz.ntmps29
  go_wp2_with (at_builtin; refine zAI rfl _ _ 54 rfl w.heap.size 61 _ 11 88 zGy (.slice (some ⟨w.heap.size,0,none⟩) 0 0) 0 [] rfl (World.ownsRow_made w #[] 0 (Nat.le_refl _) (by unfold maxLen; omega) rfl) (some ⟨g,0,none⟩) L.length cap (flatD L) rfl (zA7 Hs.out (zAA (Below.refl _ _) _)) (by unfold maxLen; omega) (by omega) (by simp) ?_; intro v' w1 hG)
  go_ret
  rw [Nat.zero_add,List.nil_append] at hG
  exact ⟨_,rfl,hG.own,zAw (zAA (Below.refl _ _) _) (Keep.of_grown (T:=fun k=>w.heap.size ≤ k) hG.grown (fun k hk=>by cases hk; exact Nat.le_refl _)) (by simp) (fun i hi=>hi)⟩
theorem zFA (h : YAt W w l B Y J v vd X) (hL : Y.ds.length ≤ 1000000000) :
  Calls Tryz.prog 12 #[pt B.yb] w fun r w'=>DeedsPost Y.ds w r w':=by
 have hB0:=zAA (Below.refl w.heap.size w) (.cells #[pt B.yb] 32)
 have HY:=zIo (h.later hB0)
 have HO:=zIo (IsObj.made w [pt B.yb] 32)
 have HB0:=zIo hB0
 clear h hB0
 go_enter Tryz.func12,Tryz.ntmps12
 go_wp2_with fail
 generalize w.alloc (.cells #[pt B.yb] 32) = w0 at HY HO HB0 ⊢
 refine (zFU (wb:=w.heap.size) (R:=fun u w'=>w'.ownsRow w.heap.size 61 11 u Y.ds.length (flatD Y.ds) ∧ Below w.heap.size w w') HY.out (fun w1 hb=>?_)).mono ?_
 ·have HY1:=zIo (HY.out.later hb)
  have q0:=(HO.out.later hb).at' 0 _ rfl
  have hw1:=zAE HB0.out hb
  have HW1:=zIo hw1
  obtain ⟨c0,c1,c2,c3,c4,c5,c6,c7,c8⟩:=HY1.out.cells
  clear HY HO HB0 hb hw1
  have HOW:=zIo HY1.out.own
  obtain ⟨A0,cap0,rfl⟩:=zAK HOW.out
  clear HY1
  go_enter Tryz.func28,Tryz.ntmps28
  go_wp2_with fail
  refine (zE9 _ _ _ _ HOW.out hL).mono ?_
  rintro r w2 ⟨u,rfl,hr,hb⟩
  have HR:=zIo hr
  have HB:=zIo hb
  clear hr hb
  go_wp2
  go_ret
  exact ⟨_,rfl,zHM HR.out (HW1.out.size),zAE HW1.out HB.out⟩
 ·rintro r w2 ⟨u,rfl,hR⟩
  have HR:=zIo hR
  clear hR HY HO HB0
  go_wp2
  go_ret
  exact ⟨_,rfl,HR.out⟩
theorem zDV : ElemAt Tryz.prog 73 81 (.agg #[.pointer none,.int .i64 0]) 2 16 :=
 ElemAt.mk' Tryz.underlying73 (by kernel_rfl) rfl (by decide)
def thRow (T : Nat) : List Value:=(madeCells (Value.agg #[.pointer none,.int .i64 0]).cells (T * 2)).toList
theorem zF0 (T : Nat) : (thRow T).length = T * 2:=by
 unfold thRow
 rw [Array.length_toList,size_madeCells]
theorem zHv {T k : Nat} (hk : k < T) : (thRow T)[k * 2]? = some (.pointer none):=by
 unfold thRow madeCells
 rw [Array.getElem?_toList,Array.getElem?_map,Array.getElem?_range,if_pos (by omega)]
 show some ((#[Value.pointer none,Value.int .i64 0] : Array Value)[k * 2 % 2]!) = _
 rw [Nat.mul_mod_left]
 rfl
theorem zBw {w : World} {base : Nat} {e : TypeId} {sz n cap g : Nat} {xs : List Value} (h : w.ownsRow base e sz (.slice (some ⟨g,0,none⟩) n cap) n xs) : IsObj w g xs ∧ base ≤ g :=
 ⟨⟨fun j x hj=>(h.cellAt j (by have:=h.1; have:=(List.getElem?_eq_some_iff.1 hj).1; omega)).trans hj,fun o=>h.frozenAt o,(h.lt _ rfl).2⟩,(h.lt _ rfl).1⟩
theorem Hold.rot {W w : World} {a b c : Thing} (h : Hold W w [a,b,c]) : Hold W w [b,c,a] :=
 h.sel (fun j=>if j = 0 then 1 else if j = 1 then 2 else 0) (fun i A hi=>by
  match i with
  | 0=>exact hi
  | 1=>exact hi
  | 2=>exact hi
  | i + 3=>simp at hi) (fun i j hi hj he=>by
  simp only [List.length_cons,List.length_nil] at hi hj
  split at he <;> split at he <;> (try split at he) <;> (try split at he) <;> omega)
def NewYard (W w : World) (T : Nat) (s so d : Int) (n : Nat) (r : Ending) (w' : World) : Prop :=
 ∃ yb tb p c l,r = .returned (.tuple #[pt yb,i64 0]) ∧ l.length = 4 ∧ YH W w' l ⟨yb,tb,p,c,T,s,so,d,T⟩ ⟨List.replicate n 0,[],0,0,List.replicate T none,[]⟩ (fun _=>0) ∧ Below w.heap.size w w' ∧ w.heap.size ≤ yb
theorem zDW {W w w' : World} {T n : Nat} {s so d : Int} {yb tb p c : Nat} (hB : Below w.heap.size w w') (hy : w.heap.size ≤ yb) (h : Hold W w' [tMem W.heap.size p c (.slice none 0 0) (List.replicate n 0) [],tObj W.heap.size yb [i64 T,i64 s,i64 so,i64 d,pt p,.slice (some ⟨tb,0,none⟩) T T,.slice none 0 0,i64 0,i64 0],tObj W.heap.size tb (thRow T)]) :
  NewYard W w T s so d n (.returned (.tuple #[pt yb,i64 0])) w' :=
 have hH : Hold W w' ([tMem W.heap.size p c (.slice none 0 0) (List.replicate n 0) [],tObj W.heap.size yb [i64 T,i64 s,i64 so,i64 d,pt p,.slice (some ⟨tb,0,none⟩) T T,.slice none 0 0,i64 0,i64 0],tObj W.heap.size tb (thRow T)] ++ [tRow W.heap.size 61 11 (.slice none 0 0) 0 []]):=h.more (Below.refl _ _) (zA5 _ _ _ _ _ _) (World.ownsRow_nil _ _ _ _) (fun q hq=>by cases hq)
 have h1 : ∀ (k : Nat),(List.replicate T (none : Option (Wk × Nat)))[k]? = some none → (thRow T)[k * 2]? = some (.pointer none):=fun k hk=>by
  rw [List.getElem?_replicate] at hk
  split at hk
  ·exact zHv (by assumption)
  ·cases hk
 have h2 : ∀ (k : Nat) (a : Wk × Nat),¬ (List.replicate T (none : Option (Wk × Nat)))[k]? = some (some a):=fun k a hk=>by
  rw [List.getElem?_replicate] at hk
  split at hk <;> cases hk
 ⟨yb,tb,p,c,_,rfl,rfl,⟨_,_,_,hH,rfl,rfl,rfl,rfl,rfl,zF0 T,List.length_replicate,h1,(fun k T' i hk=>(h2 k _ hk).elim),(fun k k' a a' hk=>(h2 k _ hk).elim)⟩,hB,hy⟩
theorem zHP (T : Nat) (s so d : Int) (N : Nat) (hB : Below W.heap.size W w) (hl : Lay T s N) (o0 : 0 ≤ so) (o1 : so ≤ 4) (d0 : 0 ≤ d) (d1 : d ≤ 100) :
  Calls Tryz.prog 17 #[cf T s so d] w (NewYard W w T s so d (2 * N + 2 * T)):=by
 have hr : rightC T s so d = true:=decide_eq_true ⟨hl.t1,hl.t2,hl.s1,hl.s2,o0,o1,d0,d1⟩
 have HR:=fun w=>zCv T s so d w
 rw [hr] at HR
 replace HR:=zIo HR
 have t2:=hl.t2
 have n2:=hl.n2
 obtain ⟨i,hi,hz0,hz1,hz2⟩:=zDV.info
 have HI:=zIo hi
 have HZ0:=zIo hz0
 have HZ1:=zIo hz1
 have HZ2:=zIo hz2
 have hB0:=zAA (Below.refl w.heap.size w) (.cells #[i64 T,i64 s,i64 so,i64 d] 26)
 have HO:=zIo (IsObj.made w [i64 T,i64 s,i64 so,i64 d] 26)
 have HB0:=zIo hB0
 have HW:=zIo hB
 clear hr hB0 hi hz0 hz1 hz2 hB
 go_enter Tryz.func17,Tryz.ntmps17
 go_wp2_with fail
 refine (HR.out _).mono ?_
 rintro r w1 ⟨rfl,hb⟩
 have HB1:=zIo (zAE HB0.out hb)
 have HO1:=zIo (HO.out.later hb)
 clear hb HB0 HO
 go_wp2_with fail
 replace HB1:=zIo (zAE HB1.out (Below.refl _ _).drew)
 replace HO1:=zIo (HO1.out.later (Below.refl _ _).drew)
 have HH:=zIo (Hold.nil (zAU HW.out HB1.out HW.out.size))
 refine zA4 (fun w'=>IsObj w' w.heap.size [i64 T,i64 s,i64 so,i64 d]) (.take 0 (.take 1 (.take 4 (.take 5 (.two 2 (.two 3 (.one 6 (.take 7 (.one 8 (.take 9 (.take 10 .nil))))) 6 (.one 3 (.take 7 (.one 8 (.take 9 (.take 10 .nil)))))) 6 (.one 2 (.one 3 (.take 7 (.one 8 (.take 9 (.take 10 .nil))))))))))) (by kernel_rfl) (by kernel_rfl) (by kernel_rfl) (by decide) (fun _ _ _ _ _ h=>h) HO1.out ?_
 repeat (refine zAg (v := ?_) rfl ?_ ?_ ?_; rotate_left 1; rfl; (focus (intro wS hSw; have q0:=hSw.at' 0 _ rfl; have q1:=hSw.at' 1 _ rfl; have q2:=hSw.at' 2 _ rfl; have q3:=hSw.at' 3 _ rfl; go_simp; first | done | with_reducible rfl)); (try simp only [Act.put,qset]))
 refine ⟨?_, ?_⟩
 ·skip
  refine runT rfl (fun K hK=>?_)
  go_simp
  go_at_call 36
  refine (zC8 T s so d N _ hl).mono ?_
  rintro r w2 ⟨rfl,hb⟩
  (try go_wp2_with fail)
  replace HB1:=zIo (zAE HB1.out hb)
  replace HO1:=zIo (HO1.out.later hb)
  replace HH:=zIo (HH.out.later hb)
  clear hb
  refine hK.out _ _ HO1.out (fun _=>?_)
  (try simp only [Act.put,qset])
  clear hK K
  refine ⟨?_, ?_⟩
  ·skip
   refine runT rfl (fun K hK=>?_)
   go_simp
   go_at_call 35
   refine (zD5 W.heap.size (2 * N + 2 * T) _ _ HH.out.size (by omega) (.inl (by omega))).mono ?_
   rintro r w3 ⟨p,c,rfl,hM,hb,hp,hc⟩
   (try go_wp2_with fail)
   replace HB1:=zIo (zAE HB1.out hb)
   replace HO1:=zIo (HO1.out.later hb)
   replace HH:=zIo (HH.out.more hb (zBy _ _ _ _ _ _) hM (fun q hq=>by
    rcases hq with rfl | rfl | hq
    ·exact hp
    ·exact hc
    ·cases hq))
   clear hb hM hp hc
   refine hK.out _ _ HO1.out (fun _=>?_)
   (try simp only [Act.put,qset])
   clear hK K
   refine runT rfl (fun K hK=>?_)
   refine zAq rfl _ _ 73 rfl W.heap.size 81 i (.agg #[.pointer none,.int .i64 0]) 2 zDV.und HI.out HZ0.out HZ1.out .i64 .i64 T rfl rfl (by rw [HZ2.out]; omega) (by unfold maxLen; omega) HH.out.size ?_
   intro w4 hown hg
   have hb:=(Below.refl _ _).grown hg (Nat.le_refl _) (fun k hk=>by cases hk)
   replace HB1:=zIo (zAE HB1.out hb)
   replace HO1:=zIo (HO1.out.later hb)
   replace HH:=zIo (HH.out.more (A:=tObj W.heap.size _ (thRow T)) hb (zAP _ _ _) (zBw hown) (fun q hq=>by cases hq; exact Nat.le_refl _))
   clear hb hown hg
   refine hK.out _ _ HO1.out (fun _=>?_)
   (try simp only [Act.put,qset])
   clear hK K
   repeat (refine zAg (v := ?_) rfl ?_ ?_ ?_; rotate_left 1; rfl; (focus (intro wS hSw; go_simp; first | done | with_reducible rfl)); (try simp only [Act.put,qset]))
   refine runT rfl (fun K hK=>?_)
   go_simp
   have hb:=zAA (Below.refl w4.heap.size w4) (.cells #[i64 T,i64 s,i64 so,i64 d,pt p,.slice (some ⟨w3.heap.size,0,none⟩) T T,.slice none 0 0,i64 0,i64 0] 75)
   have hE:=HH.out.more (A:=tObj W.heap.size w4.heap.size [i64 T,i64 s,i64 so,i64 d,pt p,.slice (some ⟨w3.heap.size,0,none⟩) T T,.slice none 0 0,i64 0,i64 0]) hb (zAP _ _ _) ⟨IsObj.made w4 [i64 T,i64 s,i64 so,i64 d,pt p,.slice (some ⟨w3.heap.size,0,none⟩) T T,.slice none 0 0,i64 0,i64 0] 75,HH.out.size⟩ (fun q hq=>by cases hq; exact Nat.le_refl _)
   have HE:=zIo hE
   have HS:=zIo HB1.out.size
   replace HB1:=zIo (zAE HB1.out hb)
   replace HO1:=zIo (HO1.out.later hb)
   clear hb hE HH
   refine hK.out _ _ HO1.out (fun _=>?_)
   (try simp only [Act.put,qset])
   clear hK K
   repeat (refine zAg (v := ?_) rfl ?_ ?_ ?_; rotate_left 1; rfl; (focus (intro wS hSw; go_simp; first | done | with_reducible rfl)); (try simp only [Act.put,qset]))
   refine zAO ?_
   go_wp2
   go_ret2
   exact zDW HB1.out HS.out (HE.out.swap)
  ·skip
   refine runT rfl (fun K hK=>?_)
   refine zAq rfl _ _ 73 rfl W.heap.size 81 i (.agg #[.pointer none,.int .i64 0]) 2 zDV.und HI.out HZ0.out HZ1.out .i64 .i64 T rfl rfl (by rw [HZ2.out]; omega) (by unfold maxLen; omega) HH.out.size ?_
   intro w4 hown hg
   have hb:=(Below.refl _ _).grown hg (Nat.le_refl _) (fun k hk=>by cases hk)
   replace HB1:=zIo (zAE HB1.out hb)
   replace HO1:=zIo (HO1.out.later hb)
   replace HH:=zIo (HH.out.more (A:=tObj W.heap.size _ (thRow T)) hb (zAP _ _ _) (zBw hown) (fun q hq=>by cases hq; exact Nat.le_refl _))
   clear hb hown hg
   refine hK.out _ _ HO1.out (fun _=>?_)
   (try simp only [Act.put,qset])
   clear hK K
   refine runT rfl (fun K hK=>?_)
   go_simp
   go_at_call 35
   refine (zD5 W.heap.size (2 * N + 2 * T) _ _ HH.out.size (by omega) (.inl (by omega))).mono ?_
   rintro r w3 ⟨p,c,rfl,hM,hb,hp,hc⟩
   (try go_wp2_with fail)
   replace HB1:=zIo (zAE HB1.out hb)
   replace HO1:=zIo (HO1.out.later hb)
   replace HH:=zIo (HH.out.more hb (zBy _ _ _ _ _ _) hM (fun q hq=>by
    rcases hq with rfl | rfl | hq
    ·exact hp
    ·exact hc
    ·cases hq))
   clear hb hM hp hc
   refine hK.out _ _ HO1.out (fun _=>?_)
   (try simp only [Act.put,qset])
   clear hK K
   repeat (refine zAg (v := ?_) rfl ?_ ?_ ?_; rotate_left 1; rfl; (focus (intro wS hSw; go_simp; first | done | with_reducible rfl)); (try simp only [Act.put,qset]))
   refine runT rfl (fun K hK=>?_)
   go_simp
   have hb:=zAA (Below.refl w3.heap.size w3) (.cells #[i64 T,i64 s,i64 so,i64 d,pt p,.slice (some ⟨w2.heap.size,0,none⟩) T T,.slice none 0 0,i64 0,i64 0] 75)
   have hE:=HH.out.more (A:=tObj W.heap.size w3.heap.size [i64 T,i64 s,i64 so,i64 d,pt p,.slice (some ⟨w2.heap.size,0,none⟩) T T,.slice none 0 0,i64 0,i64 0]) hb (zAP _ _ _) ⟨IsObj.made w3 [i64 T,i64 s,i64 so,i64 d,pt p,.slice (some ⟨w2.heap.size,0,none⟩) T T,.slice none 0 0,i64 0,i64 0] 75,HH.out.size⟩ (fun q hq=>by cases hq; exact Nat.le_refl _)
   have HE:=zIo hE
   have HS:=zIo HB1.out.size
   replace HB1:=zIo (zAE HB1.out hb)
   replace HO1:=zIo (HO1.out.later hb)
   clear hb hE HH
   refine hK.out _ _ HO1.out (fun _=>?_)
   (try simp only [Act.put,qset])
   clear hK K
   repeat (refine zAg (v := ?_) rfl ?_ ?_ ?_; rotate_left 1; rfl; (focus (intro wS hSw; go_simp; first | done | with_reducible rfl)); (try simp only [Act.put,qset]))
   refine zAO ?_
   go_wp2
   go_ret2
   exact zDW HB1.out HS.out (HE.out.rot)
 ·skip
  refine runT rfl (fun K hK=>?_)
  refine zAq rfl _ _ 73 rfl W.heap.size 81 i (.agg #[.pointer none,.int .i64 0]) 2 zDV.und HI.out HZ0.out HZ1.out .i64 .i64 T rfl rfl (by rw [HZ2.out]; omega) (by unfold maxLen; omega) HH.out.size ?_
  intro w4 hown hg
  have hb:=(Below.refl _ _).grown hg (Nat.le_refl _) (fun k hk=>by cases hk)
  replace HB1:=zIo (zAE HB1.out hb)
  replace HO1:=zIo (HO1.out.later hb)
  replace HH:=zIo (HH.out.more (A:=tObj W.heap.size _ (thRow T)) hb (zAP _ _ _) (zBw hown) (fun q hq=>by cases hq; exact Nat.le_refl _))
  clear hb hown hg
  refine hK.out _ _ HO1.out (fun _=>?_)
  (try simp only [Act.put,qset])
  clear hK K
  refine runT rfl (fun K hK=>?_)
  go_simp
  go_at_call 36
  refine (zC8 T s so d N _ hl).mono ?_
  rintro r w2 ⟨rfl,hb⟩
  (try go_wp2_with fail)
  replace HB1:=zIo (zAE HB1.out hb)
  replace HO1:=zIo (HO1.out.later hb)
  replace HH:=zIo (HH.out.later hb)
  clear hb
  refine hK.out _ _ HO1.out (fun _=>?_)
  (try simp only [Act.put,qset])
  clear hK K
  refine runT rfl (fun K hK=>?_)
  go_simp
  go_at_call 35
  refine (zD5 W.heap.size (2 * N + 2 * T) _ _ HH.out.size (by omega) (.inl (by omega))).mono ?_
  rintro r w3 ⟨p,c,rfl,hM,hb,hp,hc⟩
  (try go_wp2_with fail)
  replace HB1:=zIo (zAE HB1.out hb)
  replace HO1:=zIo (HO1.out.later hb)
  replace HH:=zIo (HH.out.more hb (zBy _ _ _ _ _ _) hM (fun q hq=>by
   rcases hq with rfl | rfl | hq
   ·exact hp
   ·exact hc
   ·cases hq))
  clear hb hM hp hc
  refine hK.out _ _ HO1.out (fun _=>?_)
  (try simp only [Act.put,qset])
  clear hK K
  repeat (refine zAg (v := ?_) rfl ?_ ?_ ?_; rotate_left 1; rfl; (focus (intro wS hSw; go_simp; first | done | with_reducible rfl)); (try simp only [Act.put,qset]))
  refine runT rfl (fun K hK=>?_)
  go_simp
  have hb:=zAA (Below.refl w3.heap.size w3) (.cells #[i64 T,i64 s,i64 so,i64 d,pt p,.slice (some ⟨w1.drew.heap.size,0,none⟩) T T,.slice none 0 0,i64 0,i64 0] 75)
  have hE:=HH.out.more (A:=tObj W.heap.size w3.heap.size [i64 T,i64 s,i64 so,i64 d,pt p,.slice (some ⟨w1.drew.heap.size,0,none⟩) T T,.slice none 0 0,i64 0,i64 0]) hb (zAP _ _ _) ⟨IsObj.made w3 [i64 T,i64 s,i64 so,i64 d,pt p,.slice (some ⟨w1.drew.heap.size,0,none⟩) T T,.slice none 0 0,i64 0,i64 0] 75,HH.out.size⟩ (fun q hq=>by cases hq; exact Nat.le_refl _)
  have HE:=zIo hE
  have HS:=zIo HB1.out.size
  replace HB1:=zIo (zAE HB1.out hb)
  replace HO1:=zIo (HO1.out.later hb)
  clear hb hE HH
  refine hK.out _ _ HO1.out (fun _=>?_)
  (try simp only [Act.put,qset])
  clear hK K
  repeat (refine zAg (v := ?_) rfl ?_ ?_ ?_; rotate_left 1; rfl; (focus (intro wS hSw; go_simp; first | done | with_reducible rfl)); (try simp only [Act.put,qset]))
  refine zAO ?_
  go_wp2
  go_ret2
  exact zDW HB1.out HS.out (HE.out.rot)
end
end
section
open Go.RowKit
def isStep (B : YB) (N : Nat) (Y Y' : Yd) (who : Int) : Prop := ∃ (k : Nat) (T : Wk) (i : Nat) (z : Int),(k : Int) = who ∧ Y.ts[k]? = some (some (T,i)) ∧ T.ask Y.C z ∧ Y' = Y.step (plOf B N k) k T i z
inductive YHow (B : YB) (N : Nat) (Y : Yd) : Yd → Prop
 | rest : YHow B N Y Y
 | call (w : Nat) (take : Bool) (kd e x s : Int) (hw : Y.ts[w]? = some none) (he : e = 0 ∨ e = 1) (hk : kdI take = kd) : YHow B N Y (Y.call w kd e x s (wkB B N w take e x s))
 | step (w : Nat) (T : Wk) (i : Nat) (z : Int) (hw : Y.ts[w]? = some (some (T,i))) (ha : T.ask Y.C z) : YHow B N Y (Y.step (plOf B N w) w T i z)
 | pass (n : Int) (hn : 0 < n) : YHow B N Y (Y.pass n)
section
variable {W w w' : World} {l : List Thing} {B : YB} {Y : Yd} {J : Nat → Nat} {v vd : Value} {X : List Value}
theorem YStay.go {l l' : List Thing} {k : Nat} {J' : Nat → Nat} {a : Wk × Nat} {Y' : Yd} (h : YStay l l' (J k)) (hk : Y.ts[k]? = some (some a)) (ht : ∀ (q : Nat) (b : Wk × Nat),Y'.ts[q]? = some (some b) → ∃ b',Y.ts[q]? = some (some b')) : YGo Y Y' l l' J J :=
 ⟨h.1,fun j A hj hf=>h.2 j A hf.1 (fun e=>hf.2 k a hk e.symm) hj,fun j _ hf=>⟨hf.1,fun q b hq=>by
  obtain ⟨b',hb'⟩:=ht q b hq
  exact hf.2 q b' hb'⟩⟩
theorem zIO {P : Pl} {k i : Nat} {T : Wk} {z : Int} (hk : Y.ts[k]? = some (some (T,i))) : ∀ (q : Nat) (b : Wk × Nat),(Y.step P k T i z).ts[q]? = some (some b) → ∃ b',Y.ts[q]? = some (some b'):=fun q b hq=>by
 have hq' : (if (T.step P Y.C Y.now z).ph = 0 then Y.ts.set k (some (T.step P Y.C Y.now z,i)) else Y.ts.set k none)[q]? = some (some b):=hq
 split at hq'
 ·rcases yset hq' with ⟨rfl,_,_⟩ | ⟨_,h⟩
  ·exact ⟨_,hk⟩
  ·exact ⟨_,h⟩
 ·rcases yset hq' with ⟨_,h,_⟩ | ⟨_,h⟩
  ·cases h
  ·exact ⟨_,h⟩
theorem zIk {l l' : List Thing} {n : Int} (hl : l'.length = l.length) (hk : ∀ j A,4 ≤ j → l[j]? = some A → l'[j]? = some A) : YGo Y (Y.pass n) l l' J J :=
 ⟨by rw [hl]; exact Nat.le_refl _,fun j A hj hf=>hk j A hf.1 hj,fun _ _ h=>h⟩
theorem zF1 (h : YAt W w l B Y J v vd X) (k : Int) (hk : k < 0 ∨ B.t ≤ k) :
  Calls Tryz.prog 24 #[pt B.yb,i64 k] w fun r w'=>r = .returned (.bool false) ∧ w = w':=by
 have hB:=zG4 h k hk
 have HB:=zIo hB
 clear hB h
 go_enter Tryz.func24,Tryz.ntmps24
 go_wp2_with fail
 refine HB.out.mono ?_
 rintro r w' ⟨rfl,rfl⟩
 go_wp2
 go_ret
 exact ⟨rfl,rfl⟩
theorem zFW (h : YAt W w l B Y J v vd X) (k : Nat) (hk : Y.ts[k]? = some none) :
  Calls Tryz.prog 24 #[pt B.yb,i64 k] w fun r w'=>r = .returned (.bool false) ∧ w = w':=by
 have hkT : k < B.T:=by have:=(List.getElem?_eq_some_iff.1 hk).1; have:=h.tl; omega
 have hB:=zEG h k hkT _ hk
 simp only [Option.isSome_none] at hB
 have HB:=zIo hB
 clear hB h hk
 go_enter Tryz.func24,Tryz.ntmps24
 go_wp2_with fail
 refine HB.out.mono ?_
 rintro r w' ⟨rfl,rfl⟩
 go_wp2
 go_ret
 exact ⟨rfl,rfl⟩
theorem zDx {N n : Nat} (hc : YCf B N) (h : YH W w l B Y J) (ho : YOk (plOf B N) B.T n Y) (hn : n < 1000000) (who : Int) :
  Calls Tryz.prog 24 #[pt B.yb,i64 who] w fun r w' => ∃ b l' J' Y',r = .returned (.bool b) ∧ YH W w' l' B Y' J' ∧ YGo Y Y' l l' J J' ∧ ((b = false ∧ Y' = Y ∧ (∀ k : Nat,(k : Int) = who → ∀ a,Y.ts[k]? ≠ some (some a))) ∨ (b = true ∧ isStep B N Y Y' who)):=by
 obtain ⟨v,vd,X,h⟩:=h
 have hT:=h.hT
 have hlen:=ho.len
 by_cases hw : who < 0 ∨ B.t ≤ who
 ·refine (zF1 h who hw).mono ?_
  rintro r w' ⟨rfl,rfl⟩
  exact ⟨false,l,J,Y,rfl,⟨v,vd,X,h⟩,YGo.refl _ _ _,.inl ⟨rfl,rfl,fun k hk a ha=>by have:=(List.getElem?_eq_some_iff.1 ha).1; omega⟩⟩
 ·obtain ⟨k,rfl⟩ : ∃ k : Nat,who = k:=⟨who.toNat,by omega⟩
  cases hq : Y.ts[k]? with
  | none =>
   rw [List.getElem?_eq_none_iff] at hq
   omega
  | some a =>
   cases a with
   | none =>
    refine (zFW h k hq).mono ?_
    rintro r w' ⟨rfl,rfl⟩
    exact ⟨false,l,J,Y,rfl,⟨v,vd,X,h⟩,YGo.refl _ _ _,.inl ⟨rfl,rfl,fun k' hk' a ha=>by
     obtain rfl : k' = k:=by omega
     rw [hq] at ha
     cases ha⟩⟩
   | some a =>
    refine (zGF h ho hn hq).mono ?_
    rintro r w' ⟨rfl,z,hz,l',hl',hs⟩
    exact ⟨true,l',J,_,rfl,hl',YStay.go (J':=J) hs hq (zIO hq),.inr ⟨rfl,k,a.1,a.2,z,rfl,hq,hz,rfl⟩⟩
theorem zGe {N n : Nat} (hc : YCf B N) (h : YH W w l B Y J) (ho : YOk (plOf B N) B.T n Y) (hn : n < 1000000) (hC : (Y.C.length : Int) = 2 * N + 2 * B.t) (k : Nat) (hk : k < B.T) (take : Bool) {kd : Int} (hkd : kdI take = kd) (e x s : Int) (he : e = 0 ∨ e = 1) (x0 : 0 ≤ x) (x1 : x ≤ 18446744073709551615) :
  Calls Tryz.prog 9 #[pt B.yb,i64 k,callV kd e x s] w fun r w' => ∃ l' J' Y',YH W w' l' B Y' J' ∧ YGo Y Y' l l' J J' ∧ YMv (plOf B N) Y Y' ∧ ((r = .returned (i64 2) ∧ Y' = Y ∧ ∃ a,Y.ts[k]? = some (some a)) ∨ (r = .returned (i64 0) ∧ Y.ts[k]? = some none ∧ Y' = Y.call k kd e x s (wkB B N k take e x s))):=by
 obtain ⟨v,vd,X,h⟩:=h
 have hT:=h.hT
 have hlen:=ho.len
 have hm:=ho.most
 cases hq : Y.ts[k]? with
 | none =>
  rw [List.getElem?_eq_none_iff] at hq
  omega
 | some a =>
  cases a with
  | some a =>
   refine (zFD h k a hq kd e x s ⟨by cases take; exact .inl hkd.symm; exact .inr hkd.symm,he⟩).mono ?_
   rintro r w' ⟨rfl,hb⟩
   exact ⟨l,J,Y,⟨v,vd,X,h.later hb⟩,YGo.refl _ _ _,.rest,.inl ⟨rfl,rfl,a,rfl⟩⟩
  | none =>
   refine (zFu hc h take hkd e x s he hq ho.nds (by omega)).mono ?_
   rintro r w' ⟨rfl,l',J',hl',hg⟩
   obtain ⟨m0,m1⟩:=hc.own hT hk
   obtain ⟨k1,k2⟩:=zH6 (C:=Y.C) (so:=B.so) (d:=B.d) (e:=e) (x:=x) (start:=s) (nb:=2 * N + B.T) (h0:=2 * N) (hw:=2 * N + k) take hc.lay hC (by omega) (by omega) (by omega) (show (0 : Int) ≤ k by omega) (by omega) rfl m0 m1 hc.o0 hc.o1 hc.d0 hc.d1 he x0 x1
   exact ⟨l',J',_,hl',hg,.call k kd e x s _ hq k1 k2 (zH4 take) (by cases take <;> rfl) ⟨by cases take; exact .inl hkd.symm; exact .inr hkd.symm,he⟩,.inr ⟨rfl,rfl,rfl⟩⟩
end
end
section
open Go.RowKit
def hP : Pl:=⟨1,0,3,2,2⟩
def hstep (Y : Yd) : Yd:=match Y.ts with
 | some (T,i) :: _=>Y.step hP 0 T i 0
 | _=>Y
def hY : Nat → Yd
 | 0=>Yd.call ⟨[0,0,0,0],[],0,0,[none],[]⟩ 0 0 0 7 0 (wk0 1 1 0 0 0 false 0 7 0 0 1)
 | q + 1=>hstep (hY q)
def hZ : Nat → Yd
 | 0=>(hY 4).call 0 1 0 0 0 (wk0 1 1 0 0 0 true 0 0 0 0 1)
 | q + 1=>hstep (hZ q)
theorem hend {e z : Int} (h : IsEnd [9] e z) : z = 0:=by
 rcases h with ⟨_,h⟩ | ⟨i,h0,h1,h2,_⟩
 ·exact absurd (by decide : live [9] 0) (h 0 (by decide))
 ·have h1' : i < 1:=h1
  omega
abbrev hB (yb tb p c : Nat) : YB:=⟨yb,tb,p,c,(1 : Nat),1,0,0,1⟩
section
variable {W w w' : World} {l : List Thing} {B : YB} {Y Y' : Yd} {J : Nat → Nat} {n yb tb p c : Nat}
end
end
section
open Go.RowKit
section
variable {W w w' : World} {l : List Thing} {B : YB} {Y : Yd} {J : Nat → Nat} {v vd : Value} {X : List Value}
end
end
section
open Go.RowKit
structure YdL (W w : World) (l : List Thing) (B : YB) (N : Nat) (Y : Yd) (J : Nat → Nat) (n : Nat) : Prop where
 h : YH W w l B Y J
 ok : YOk (plOf B N) B.T n Y
 len : (Y.C.length : Int) = 2 * N + 2 * B.t
 cf : YCf B N
 hT : (B.T : Int) = B.t
section
variable {W w w' : World} {l l' : List Thing} {B : YB} {Y Y' : Yd} {J J' : Nat → Nat} {n N : Nat}
theorem YdL.later (h : YdL W w l B N Y J n) (e : Below w.heap.size w w') : YdL W w' l B N Y J n:=⟨h.h.later e,h.ok,h.len,h.cf,h.hT⟩
theorem YMv.len {pl : Nat → Pl} (h : YMv pl Y Y') : Y'.C.length = Y.C.length:=by
 cases h with
 | rest=>rfl
 | call=>rfl
 | pass=>rfl
 | step=>exact Wk.cells_len
theorem YdL.next (h : YdL W w l B N Y J n) (hn : n < 1000000) (hm : YMv (plOf B N) Y Y') (hl : YH W w' l' B Y' J') : YdL W w' l' B N Y' J' (n + 1) :=
 ⟨hl,h.ok.next hm hn h.h.fit,by rw [hm.len]; exact h.len,h.cf,h.hT⟩
theorem YdL.start {s so d : Int} {T : Nat} {yb tb p c : Nat} (hl : Lay T s N) (o0 : 0 ≤ so) (o1 : so ≤ 4) (d0 : 0 ≤ d) (d1 : d ≤ 100) (h : YH W w l ⟨yb,tb,p,c,T,s,so,d,T⟩ ⟨List.replicate (2 * N + 2 * T) 0,[],0,0,List.replicate T none,[]⟩ J) :
  YdL W w l ⟨yb,tb,p,c,T,s,so,d,T⟩ N ⟨List.replicate (2 * N + 2 * T) 0,[],0,0,List.replicate T none,[]⟩ J 0 :=
 ⟨h,YOk.start _ T,by show ((List.replicate (2 * N + 2 * T) (0 : Int)).length : Int) = _; rw [List.length_replicate]; show ((2 * N + 2 * T : Nat) : Int) = 2 * N + 2 * (T : Int); omega,⟨hl,o0,o1,d0,d1⟩,rfl⟩
theorem YdL.deeds (h : YdL W w l B N Y J n) (hn : n ≤ 1000000) : Calls Tryz.prog 12 #[pt B.yb] w (DeedsPost Y.ds w):=by
 obtain ⟨v,vd,X,hA⟩:=h.h
 exact zFA hA (by have:=h.ok.nds; have:=h.ok.most; omega)
theorem YH.newFree (h : YH W w l B Y J) : YFree Y J l.length:=by
 obtain ⟨v,vd,X,h⟩:=h
 refine ⟨(List.getElem?_eq_some_iff.1 h.deeds).1,fun k a hk=>?_⟩
 obtain ⟨y,_,_,_,d,_⟩:=h.busy k a.1 a.2 hk
 exact Nat.ne_of_lt (List.getElem?_eq_some_iff.1 d).1
theorem YdL.more (h : YdL W w l B N Y J n) {A : Thing} (e : Below w.heap.size w w') (ok : A.Ok W.heap.size) (hP : A.P w') (hF : ∀ q,A.F q → w.heap.size ≤ q) : YdL W w' (l ++ [A]) B N Y J n:=⟨h.h.more e ok hP hF,h.ok,h.len,h.cf,h.hT⟩
structure Rest (Y : Yd) (l : List Thing) (J : Nat → Nat) (j : Nat) (A : Thing) : Prop where
 at' : l[j]? = some A
 free : YFree Y J j
theorem Rest.go {j : Nat} {A : Thing} (h : Rest Y l J j A) (g : YGo Y Y' l l' J J') : Rest Y' l' J' j A:=⟨g.keep j A h.at' h.free,g.free j (List.getElem?_eq_some_iff.1 h.at').1 h.free⟩
theorem YdL.rest (h : YdL W w l B N Y J n) (A : Thing) : Rest Y (l ++ [A]) J l.length A:=⟨by rw [List.getElem?_append_right (Nat.le_refl _),Nat.sub_self]; rfl,h.h.newFree⟩
theorem YdL.has (h : YdL W w l B N Y J n) {j : Nat} {A : Thing} (hr : Rest Y l J j A) : A.P w:=h.h.hold.has _ _ hr.at'
theorem YdL.busy (h : YdL W w l B N Y J n) (k : Nat) (b : Bool) (hb : ∃ q,Y.ts[k]? = some q ∧ q.isSome = b) : Calls Tryz.prog 25 #[pt B.yb,i64 k] w fun r w'=>r = .returned (.bool b) ∧ w = w':=by
 obtain ⟨q,hq,rfl⟩:=hb
 obtain ⟨v,vd,X,hA⟩:=h.h
 exact zEG hA k (by have:=(List.getElem?_eq_some_iff.1 hq).1; have:=h.ok.len; omega) q hq
theorem YdL.call (h : YdL W w l B N Y J n) (hn : n < 1000000) (k : Nat) (hk : k < B.T) (take : Bool) {kd : Int} (hkd : kdI take = kd) (e x s : Int) (he : e = 0 ∨ e = 1) (x0 : 0 ≤ x) (x1 : x ≤ 18446744073709551615) :
  Calls Tryz.prog 9 #[pt B.yb,i64 k,callV kd e x s] w fun r w' => ∃ l' J' Y',YdL W w' l' B N Y' J' (n + 1) ∧ YGo Y Y' l l' J J' ∧ ((r = .returned (i64 2) ∧ Y' = Y ∧ ∃ a,Y.ts[k]? = some (some a)) ∨ (r = .returned (i64 0) ∧ Y.ts[k]? = some none ∧ Y' = Y.call k kd e x s (wkB B N k take e x s))):=by
 refine (zGe h.cf h.h h.ok hn h.len k hk take hkd e x s he x0 x1).mono ?_
 rintro r w' ⟨l',J',Y',h1,h2,h3,h4⟩
 exact ⟨l',J',Y',h.next hn h3 h1,h2,h4⟩
end
end
section
open Go.RowKit
def Bel (nb : Nat) (k : Tk) (C : List Int) (now h : Int) : Prop :=
 if k.so = 0 then h < C.getD nb 0
 else if k.so = 1 then h ≤ k.seen ∨ ∃ j : Nat,k.steps ≤ j ∧ (j : Int) < k.t ∧ h ≤ C.getD (nb + j) 0
 else if k.so = 2 then (k.steps = 0 → h < C.getD nb 0) ∧ (k.steps ≠ 0 → h < k.seen)
 else (k.steps = 0 → h < now) ∧ (k.steps ≠ 0 → h < k.seen)
structure Go1 (nb : Nat) (k : Tk) (C : List Int) (now M : Int) : Prop where
 ph : k.ph = 0
 seen : k.so ≤ 2 → k.seen ≤ M
 low : k.so = 2 → k.steps ≠ 0 → k.seen ≤ C.getD nb 0
 sw : k.so = 2 → 3 ≤ k.steps → k.seen < C.getD nb 0
 own : k.so = 1 → k.who < k.steps → C.getD (nb + k.who.toNat) 0 ≤ k.seen
 time : 3 ≤ k.so → k.steps ≠ 0 → k.seen ≤ now
theorem zEV {C : List Int} {i : Nat} {x : Int} (h : C.getD i 0 ≤ x) : ∀ j,C.getD j 0 ≤ (C.set i x).getD j 0:=fun j=>by
 rw [zAs]
 split
 ·rename_i hh
  rw [← hh.1]
  exact h
 ·exact Int.le_refl _
end
section
open Go.RowKit
def MostN (nb : Nat) (C : List Int) (M : Int) : Prop:=∀ j,nb ≤ j → 0 ≤ C.getD j 0 ∧ C.getD j 0 ≤ M
structure UpN (nb : Nat) (so who t : Int) (C C' : List Int) : Prop where
 up : ∀ j,nb ≤ j → C.getD j 0 ≤ C'.getD j 0
 other : so = 1 → ∀ j : Nat,(j : Int) < t → (j : Int) ≠ who → C'.getD (nb + j) 0 = C.getD (nb + j) 0
theorem zA0 (nb : Nat) (so who t : Int) (C : List Int) : UpN nb so who t C C:=⟨fun _ _=>Int.le_refl _,fun _ _ _ _=>rfl⟩
theorem zEo {nb : Nat} {C : List Int} {M M' : Int} (h : MostN nb C M) (hM : M ≤ M') : MostN nb C M':=fun j hj=>by have:=h j hj; omega
theorem zCT {nb : Nat} {C : List Int} {i : Nat} {x M : Int} (h : MostN nb C M) (h0 : 0 ≤ x) (h1 : x ≤ M + 1) : MostN nb (C.set i x) (M + 1):=fun j hj=>by
 rw [zAs]
 split
 ·exact ⟨h0,h1⟩
 ·have:=h j hj
  omega
theorem Bel.upN {nb : Nat} {k : Tk} {C C' : List Int} {now now' h : Int} (hB : Bel nb k C now h) (hC : ∀ j,nb ≤ j → C.getD j 0 ≤ C'.getD j 0) (hn : now ≤ now') : Bel nb k C' now' h:=by
 unfold Bel at hB ⊢
 have h0:=hC nb (Nat.le_refl _)
 split
 ·rename_i h1
  rw [if_pos h1] at hB
  omega
 ·rename_i h1
  rw [if_neg h1] at hB
  split
  ·rename_i h2
   rw [if_pos h2] at hB
   rcases hB with hB | ⟨j,a,b,c⟩
   ·exact .inl hB
   ·exact .inr ⟨j,a,b,Int.le_trans c (hC _ (by omega))⟩
  ·rename_i h2
   rw [if_neg h2] at hB
   split
   ·rename_i h3
    rw [if_pos h3] at hB
    exact ⟨fun h=>by have:=hB.1 h; omega,hB.2⟩
   ·rename_i h3
    rw [if_neg h3] at hB
    exact ⟨fun h=>by have:=hB.1 h; omega,hB.2⟩
theorem Go1.upN {nb : Nat} {k : Tk} {C C' : List Int} {now now' M M' t who : Int} (h : Go1 nb k C now M) (hU : UpN nb k.so who t C C') (hk : k.who ≠ who) (h0 : 0 ≤ k.who) (ht : k.who < t) (hn : now ≤ now') (hM : M ≤ M') : Go1 nb k C' now' M':=by
 have h1:=hU.up nb (Nat.le_refl _)
 exact ⟨h.ph,fun h2=>by have:=h.seen h2; omega,fun h2 h3=>by have:=h.low h2 h3; omega,fun h2 h3=>by have:=h.sw h2 h3; omega,
  fun h2 h3=>by rw [hU.other h2 k.who.toNat (by omega) (by omega)]; exact h.own h2 h3,fun h2 h3=>by have:=h.time h2 h3; omega⟩
theorem Go1.same {nb : Nat} {k : Tk} {C C' : List Int} {now now' M M' : Int} (h : Go1 nb k C now M) (hC : ∀ j,nb ≤ j → C'.getD j 0 = C.getD j 0) (hn : now ≤ now') (hM : M ≤ M') : Go1 nb k C' now' M' :=
 ⟨h.ph,fun h2=>by have:=h.seen h2; omega,fun h2 h3=>by rw [hC nb (Nat.le_refl _)]; exact h.low h2 h3,fun h2 h3=>by rw [hC nb (Nat.le_refl _)]; exact h.sw h2 h3,
  fun h2 h3=>by rw [hC _ (by omega)]; exact h.own h2 h3,fun h2 h3=>by have:=h.time h2 h3; omega⟩
def AdvN (nb : Nat) (k k' : Tk) (C C' : List Int) (now now' M : Int) : Prop :=
 (k'.ph = 0 ∧ Go1 nb k' C' now' (M + 1) ∧ ∀ h,h < 16777215 → Bel nb k C now h → Bel nb k' C' now' h) ∨
 (k'.ph = 1 ∧ 0 ≤ k'.lo ∧ k'.lo ≤ k'.hi ∧ k'.hi < 16777215 ∧ (∀ h,h < 16777215 → Bel nb k C now h → h < k'.lo) ∧ ∀ k0 : Tk,k0.so = k.so → k0.t = k.t → k0.steps = 0 → Bel nb k0 C' now' k'.hi) ∨ k'.ph = 2
theorem zEa {nb : Nat} {k : Tk} {C : List Int} {now now' M n : Int} (hk : k.Ok nb n C) (h : Go1 nb k C now M) (hM : MostN nb C M) (m0 : 0 ≤ M) (m1 : M < 1000000) (n0 : 0 ≤ now) (hn : now ≤ now') (hn' : now < 16777215 → now < now') :
  AdvN nb k (stp nb k C now).1 C (stp nb k C now).2.1 now now' M ∧ MostN nb (stp nb k C now).2.1 (M + 1) ∧ UpN nb k.so k.who k.t C (stp nb k C now).2.1:=by
 have hlen:=hk.len
 have hw0:=hk.w0
 have hw1:=hk.w1
 have hs0:=hk.s0
 have ht1:=hk.lay.t1
 have he0:=hk.e0
 have he1:=hk.e1
 have hx:=hM nb (Nat.le_refl _)
 have hl : low (C.getD nb 0) = C.getD nb 0:=by unfold low; omega
 have hln : 0 ≤ low now ∧ low now ≤ now ∧ low now ≤ 16777215 ∧ (now < 16777215 → low now = now) ∧ (16777215 ≤ now → low now = 16777215):=by unfold low; omega
 have hp:=h.ph
 have hmu : MostN nb C (M + 1):=zEo hM (by omega)
 rcases (by have:=hk.o0; have:=hk.o1; omega : k.so = 0 ∨ k.so = 1 ∨ k.so = 2 ∨ (k.so = 3 ∨ k.so = 4)) with hs | hs | hs | hs
 ·have ha : add64 (C.getD nb 0) 1 = C.getD nb 0 + 1:=by unfold add64; rw [IntKind.wrap_u64]; omega
  rw [stp_c0 hp hs,hl,ha,zB0 _ (by omega)]
  refine ⟨.inr (.inl ⟨rfl,hx.1,Int.le_refl _,by show C.getD nb 0 < 16777215; omega,fun g _ hg=>?_,fun k0 e0 _ _=>?_⟩),zCT hM (by omega) (by omega),⟨fun j _=>zEV (by omega) j,fun h=>by omega⟩⟩
  ·unfold Bel at hg
   rw [if_pos hs] at hg
   exact hg
  ·unfold Bel
   rw [if_pos (by omega),zAs,if_pos ⟨rfl,by omega⟩]
   show C.getD nb 0 < C.getD nb 0 + 1
   omega
 ·have hse:=h.seen (by omega)
  by_cases hlt : k.steps < k.t
  ·have hy:=hM (nb + k.steps.toNat) (by omega)
   have hly : low (C.getD (nb + k.steps.toNat) 0) = C.getD (nb + k.steps.toNat) 0:=by unfold low; omega
   rw [zIG hp hs hlt,hly]
   refine ⟨.inl ⟨hp,⟨hp,fun _=>by show max k.seen _ ≤ M + 1; omega,fun h=>by have : k.so = 2:=h; omega,fun h=>by have : k.so = 2:=h; omega,fun _ hw=>?_,fun h=>by have : 3 ≤ k.so:=h; omega⟩,fun g _ hg=>?_⟩,hmu,zA0 _ _ _ _ _⟩
   ·show C.getD (nb + k.who.toNat) 0 ≤ max k.seen (C.getD (nb + k.steps.toNat) 0)
    have hw' : k.who < k.steps + 1:=hw
    by_cases hwk : k.who < k.steps
    ·have:=h.own hs hwk
     omega
    ·rw [show k.who.toNat = k.steps.toNat by omega]
     omega
   ·unfold Bel at hg ⊢
    rw [if_neg (by omega),if_pos hs] at hg
    rw [if_neg (by show ¬ k.so = 0; omega),if_pos hs]
    rcases hg with hg | ⟨j,a,b,c⟩
    ·exact .inl (by show g ≤ max k.seen _; omega)
    ·by_cases hj : (j : Int) = k.steps
     ·refine .inl ?_
      show g ≤ max k.seen (C.getD (nb + k.steps.toNat) 0)
      rw [show k.steps.toNat = j by omega]
      omega
     ·exact .inr ⟨j,by show k.steps + 1 ≤ j; omega,b,c⟩
  ·have hw:=h.own hs (by omega)
   rw [zIW hp hs hlt (by omega)]
   refine ⟨.inr (.inl ⟨rfl,by show 0 ≤ k.seen + 1; omega,Int.le_refl _,by show k.seen + 1 < 16777215; omega,fun g _ hg=>?_,fun k0 e0 e1 e2=>?_⟩),zCT hM (by omega) (by omega),⟨fun j _=>zEV (by omega) j,fun _ j hj hne=>?_⟩⟩
   ·unfold Bel at hg
    rw [if_neg (by omega),if_pos hs] at hg
    show g < k.seen + 1
    rcases hg with hg | ⟨j,a,b,c⟩
    ·omega
    ·omega
   ·unfold Bel
    rw [if_neg (by omega),if_pos (by omega)]
    refine .inr ⟨k.who.toNat,by omega,by omega, ?_⟩
    rw [zAs,if_pos ⟨rfl,by omega⟩]
    exact Int.le_refl _
   ·rw [zAs,if_neg (by omega)]
 ·by_cases h0 : k.steps = 0
  ·have hst:=zIE (nb:=nb) (C:=C) (now:=now) hp hs h0
   rw [hl,if_neg (by omega)] at hst
   rw [hst]
   refine ⟨.inl ⟨rfl,⟨rfl,fun _=>by show C.getD nb 0 ≤ M + 1; omega,fun _ _=>Int.le_refl _,fun _ h=>by have : 3 ≤ k.steps + 1:=h; omega,fun h=>by have : k.so = 1:=h; omega,fun h=>by have : 3 ≤ k.so:=h; omega⟩,fun g _ hg=>?_⟩,hmu,zA0 _ _ _ _ _⟩
   unfold Bel at hg ⊢
   rw [if_neg (by omega),if_neg (by omega),if_pos hs] at hg
   rw [if_neg (by show ¬ k.so = 0; omega),if_neg (by show ¬ k.so = 1; omega),if_pos hs]
   exact ⟨fun h=>by have : k.steps + 1 = 0:=h; omega,fun _=>hg.1 h0⟩
  ·have hse:=h.seen (by omega)
   have hlo:=h.low hs h0
   have keep : ∀ g,Bel nb k C now g → Bel nb { k with steps:=k.steps + 1 } C now' g:=fun g hg=>by
    unfold Bel at hg ⊢
    rw [if_neg (by omega),if_neg (by omega),if_pos hs] at hg
    rw [if_neg (by show ¬ k.so = 0; omega),if_neg (by show ¬ k.so = 1; omega),if_pos hs]
    exact ⟨fun h=>by have : k.steps + 1 = 0:=h; omega,fun _=>hg.2 h0⟩
   have done : k.seen < C.getD nb 0 → AdvN nb k { k with steps:=k.steps + 1,ph:=1,lo:=k.seen,hi:=C.getD nb 0 - 1 } C C now now' M:=fun hlt =>
    .inr (.inl ⟨rfl,he0,by show k.seen ≤ C.getD nb 0 - 1; omega,by show C.getD nb 0 - 1 < 16777215; omega,fun g _ hg=>by
     unfold Bel at hg
     rw [if_neg (by omega),if_neg (by omega),if_pos hs] at hg
     exact hg.2 h0,fun k0 e0 _ e2=>by
     unfold Bel
     rw [if_neg (by omega),if_neg (by omega),if_pos (by omega)]
     exact ⟨fun _=>by show C.getD nb 0 - 1 < _; omega,fun h=>absurd e2 h⟩⟩)
   by_cases h1 : k.steps = 1
   ·by_cases hxx : low (C.getD nb 0) = k.seen
    ·rw [zHE hp hs h1 hxx]
     exact ⟨.inl ⟨hp,⟨hp,fun _=>by show k.seen ≤ M + 1; omega,fun _ _=>hlo,fun _ h=>by have : 3 ≤ k.steps + 1:=h; omega,fun h=>by have : k.so = 1:=h; omega,fun h=>by have : 3 ≤ k.so:=h; omega⟩,fun g _=>keep g⟩,hmu,zA0 _ _ _ _ _⟩
    ·rw [zHo hp hs h1 hxx,hl,zB0 _ (by omega)]
     exact ⟨done (by omega),hmu,zA0 _ _ _ _ _⟩
   ·by_cases h2 : k.steps = 2
    ·by_cases hxx : C.getD nb 0 = k.seen
     ·rw [zHr hp hs h2 hxx,zB0 _ (by omega)]
      refine ⟨.inr (.inl ⟨rfl,he0,Int.le_refl _,by show k.seen < 16777215; omega,fun g _ hg=>?_,fun k0 e0 _ e2=>?_⟩),zCT hM (by omega) (by omega),⟨fun j _=>zEV (by omega) j,fun h=>by omega⟩⟩
      ·unfold Bel at hg
       rw [if_neg (by omega),if_neg (by omega),if_pos hs] at hg
       exact hg.2 h0
      ·unfold Bel
       rw [if_neg (by omega),if_neg (by omega),if_pos (by omega)]
       refine ⟨fun _=>?_,fun h=>absurd e2 h⟩
       rw [zAs,if_pos ⟨rfl,by omega⟩]
       show k.seen < k.seen + 1
       omega
     ·rw [zHK hp hs h2 hxx]
      exact ⟨.inl ⟨hp,⟨hp,fun _=>by show k.seen ≤ M + 1; omega,fun _ _=>hlo,fun _ _=>by show k.seen < C.getD nb 0; omega,fun h=>by have : k.so = 1:=h; omega,fun h=>by have : 3 ≤ k.so:=h; omega⟩,fun g _=>keep g⟩,hmu,zA0 _ _ _ _ _⟩
    ·have hsw:=h.sw hs (by omega)
     rw [zIZ hp hs (by omega),hl,zB0 _ (by omega)]
     exact ⟨done hsw,hmu,zA0 _ _ _ _ _⟩
 ·obtain ⟨l0,l1,l2,l3,l4⟩:=hln
  have hseen : 0 ≤ (if k.steps = 0 then low now else k.seen) ∧ (if k.steps = 0 then low now else k.seen) ≤ now:=by
   split
   ·omega
   ·rename_i h0
    exact ⟨he0,h.time (by omega) h0⟩
  have hbel : ∀ g,g < 16777215 → Bel nb k C now g → g < (if k.steps = 0 then low now else k.seen):=fun g g1 hg=>by
   unfold Bel at hg
   rw [if_neg (by omega),if_neg (by omega),if_neg (by omega)] at hg
   split
   ·rename_i h0
    have:=hg.1 h0
    omega
   ·rename_i h0
    exact hg.2 h0
  have hend : AdvN nb k (fin { k with steps:=k.steps + 1,seen:=(if k.steps = 0 then low now else k.seen) } (if k.steps = 0 then low now else k.seen) (low now)) C C now now' M:=by
   by_cases hf : 0 ≤ (if k.steps = 0 then low now else k.seen) ∧ (if k.steps = 0 then low now else k.seen) ≤ low now ∧ low now < 16777215
   ·rw [zB0 _ hf]
    refine .inr (.inl ⟨rfl,hf.1,hf.2.1,hf.2.2,hbel,fun k0 e0 _ e2=>?_⟩)
    have hlt : now < 16777215:=by omega
    unfold Bel
    rw [if_neg (by omega),if_neg (by omega),if_neg (by omega)]
    exact ⟨fun _=>by show low now < now'; have:=hn' hlt; omega,fun h=>absurd e2 h⟩
   ·rw [zH3 _ hf]
    exact .inr (.inr rfl)
  by_cases hd : k.so = 3 ∨ k.so = 4 ∧ k.d < k.steps
  ·rw [stp_c3 hp hd]
   exact ⟨hend,hmu,zA0 _ _ _ _ _⟩
  ·have hs4 : k.so = 4:=by omega
   rw [stp_c4 hp hs4 (by omega)]
   refine ⟨.inl ⟨hp,⟨hp,fun h=>by have : k.so ≤ 2:=h; omega,fun h=>by have : k.so = 2:=h; omega,fun h=>by have : k.so = 2:=h; omega,fun h=>by have : k.so = 1:=h; omega,fun _ _=>by show (if k.steps = 0 then low now else k.seen) ≤ now'; omega⟩,fun g g1 hg=>?_⟩,hmu,zA0 _ _ _ _ _⟩
   unfold Bel
   rw [if_neg (by show ¬ k.so = 0; omega),if_neg (by show ¬ k.so = 1; omega),if_neg (by show ¬ k.so = 2; omega)]
   exact ⟨fun h=>by have : k.steps + 1 = 0:=h; omega,fun _=>hbel g g1 hg⟩
end
section
open Go.RowKit
def inc64 (x : Int) : Int:=IntKind.u64.wrap (x + 1)
def lastE (L : List Ev) (c : Int) : Int:=L.foldl (fun x e=>if e.cell = c then e.new else x) 0
theorem zFL (L : List Ev) (e : Ev) (c : Int) : lastE (L ++ [e]) c = if e.cell = c then e.new else lastE L c:=by
 unfold lastE
 rw [List.foldl_append]
 rfl
def loadE (L : List Ev) (who c : Int) : Option Int:=L.foldl (fun x e=>if e.who = who ∧ e.cell = c ∧ e.op = 0 then some e.old else x) none
theorem zCm (L : List Ev) (e : Ev) (who c : Int) : loadE (L ++ [e]) who c = if e.who = who ∧ e.cell = c ∧ e.op = 0 then some e.old else loadE L who c:=by
 unfold loadE
 rw [List.foldl_append]
 rfl
def MayW (s : Int) (e : Ev) : Prop :=
 e.op = 0 ∨ (e.op = 1 ∧ e.who = e.cell / s ∧ e.old % 4 ≠ 1 ∧ e.new % 4 = 1 ∧ e.new / 8 % 8192 = e.old / 8 % 8192 + 1 ∧ e.new / 65536 % 16777216 ≤ e.new / 1099511627776 ∧ e.new / 1099511627776 < 16777215) ∨
  (e.op = 2 ∧ (e.ok = false ∨ (e.old % 4 = 1 ∧ e.new % 4 = 2 ∧ e.new / 4 % 2 = e.old / 4 % 2 ∧ e.new / 8 % 8192 = e.old / 8 % 8192 ∧ e.new / 65536 % 16777216 = e.old / 65536 % 16777216 ∧ e.new / 1099511627776 = e.old / 1099511627776)))
def MayV (N : Nat) (s : Int) (f : Int → Int) (g : Int → Int → Option Int) (e : Ev) : Prop :=
 (e.op = 0 ∧ (∃ r,g e.who (e.cell - N) = some r ∧ r / 8 % 8192 = f (e.cell - N) / 8 % 8192) ∧ f (2 * N + e.who) = e.cell - N + 1) ∨ (e.op = 1 ∧ e.who = (e.cell - N) / s ∧ f (e.cell - N) % 4 ≠ 1)
def MayH (N : Nat) (e : Ev) : Prop:=e.op = 0 ∨ (e.op = 1 ∧ e.who = e.cell - 2 * N)
def MayN (so j : Int) (e : Ev) : Prop :=
 (so = 0 ∧ j = 0 ∧ e.op = 3 ∧ e.new = inc64 e.old) ∨ (so = 1 ∧ (e.op = 0 ∨ (e.op = 1 ∧ e.who = j ∧ e.old < e.new))) ∨ (so = 2 ∧ j = 0 ∧ (e.op = 0 ∨ (e.op = 2 ∧ (e.ok = false ∨ e.new = inc64 e.old))))
def MayF (t s so : Int) (N : Nat) (f : Int → Int) (g : Int → Int → Option Int) (e : Ev) : Prop :=
 0 ≤ e.who ∧ e.who < t ∧ 0 ≤ e.cell ∧ e.cell < 2 * N + 2 * t ∧ e.old = f e.cell ∧
  if e.cell < N then MayW s e else if e.cell < 2 * N then MayV N s f g e else if e.cell < 2 * N + t then MayH N e else MayN so (e.cell - 2 * N - t) e
def May (t s so : Int) (N : Nat) (L : List Ev) (e : Ev) : Prop:=MayF t s so N (lastE L) (loadE L) e
def AllMay (t s so : Int) (N : Nat) (L : List Ev) : Prop:=∀ i e,L[i]? = some e → May t s so N (L.take i) e
theorem AllMay.nil (t s so : Int) (N : Nat) : AllMay t s so N []:=fun i e h=>by simp at h
theorem AllMay.snoc {t s so : Int} {N : Nat} {L : List Ev} {e : Ev} (h : AllMay t s so N L) (he : May t s so N L e) : AllMay t s so N (L ++ [e]):=fun i x hi=>by
 rcases Nat.lt_or_ge i L.length with hl | hl
 ·rw [List.getElem?_append_left hl] at hi
  rw [List.take_append_of_le_length (by omega)]
  exact h i x hi
 ·rw [List.getElem?_append_right hl] at hi
  rcases (by omega : i - L.length = 0 ∨ 0 < i - L.length) with h0 | h0
  ·rw [h0] at hi
   cases hi
   obtain rfl : i = L.length:=by omega
   rw [List.take_left]
   exact he
  ·rw [List.getElem?_eq_none (by show 1 ≤ _; omega)] at hi
   cases hi
end
section
open Go.RowKit
theorem zG2 {x : Int} (h0 : 0 ≤ x) (h1 : x < 18446744073709551615) : inc64 x = x + 1:=by
 unfold inc64
 rw [IntKind.wrap_u64]
 omega
theorem zFx {nb : Nat} {n : Int} {k : Tk} {C : List Int} {now so : Int} (h : k.Ok nb n C) (hso : k.so = so) (hf : ∀ j,0 ≤ C.getD j 0 ∧ C.getD j 0 ≤ 18446744073709551615) (hs : so = 1 → k.who < k.steps → low (C.getD (nb + k.who.toNat) 0) ≤ k.seen) :
  (stp nb k C now).2.2 = none ∨ ∃ e,(stp nb k C now).2.2 = some e ∧ e.who = k.who ∧ (nb : Int) ≤ e.cell ∧ e.cell < nb + k.t ∧ e.old = C.getD e.cell.toNat 0 ∧ MayN so (e.cell - nb) e:=by
 have w0:=h.w0; have w1:=h.w1; have s0:=h.s0; have e1:=h.e1; have sw:=h.sw
 subst hso
 have hold : ∀ (i : Nat),C.getD i 0 = C.getD (i : Int).toNat 0:=fun i=>by rw [Int.toNat_natCast]
 unfold stp
 split
 ·rename_i hp
  split
  ·rename_i ho
   exact .inr ⟨_,rfl,rfl,Int.le_refl _,by show (nb : Int) < nb + k.t; omega,hold nb,.inl ⟨ho,by show (nb : Int) - nb = 0; omega,rfl,rfl⟩⟩
  ·split
   ·rename_i ho
    split
    ·rename_i hst
     exact .inr ⟨_,rfl,rfl,by show (nb : Int) ≤ (nb + k.steps.toNat : Nat); omega,by show ((nb + k.steps.toNat : Nat) : Int) < nb + k.t; omega,hold _,.inr (.inl ⟨ho,.inl rfl⟩)⟩
    ·split
     ·rename_i hst hse
      refine .inr ⟨_,rfl,rfl,by show (nb : Int) ≤ (nb + k.who.toNat : Nat); omega,by show ((nb + k.who.toNat : Nat) : Int) < nb + k.t; omega,hold _,.inr (.inl ⟨ho,.inr ⟨rfl,by show k.who = ((nb + k.who.toNat : Nat) : Int) - nb; omega, ?_⟩⟩)⟩
      show C.getD (nb + k.who.toNat) 0 < k.seen + 1
      have hq:=hs ho (by omega)
      unfold low at hq
      omega
     ·exact .inl rfl
   ·split
    ·rename_i ho
     split
     ·exact .inr ⟨_,rfl,rfl,Int.le_refl _,by show (nb : Int) < nb + k.t; omega,hold nb,.inr (.inr ⟨ho,by show (nb : Int) - nb = 0; omega,.inl rfl⟩)⟩
     ·split
      ·exact .inr ⟨_,rfl,rfl,Int.le_refl _,by show (nb : Int) < nb + k.t; omega,hold nb,.inr (.inr ⟨ho,by show (nb : Int) - nb = 0; omega,.inl rfl⟩)⟩
      ·split
       ·rename_i h0 h1 h2
        split
        ·rename_i hx
         refine .inr ⟨_,rfl,rfl,Int.le_refl _,by show (nb : Int) < nb + k.t; omega,hold nb,.inr (.inr ⟨ho,by show (nb : Int) - nb = 0; omega,.inr ⟨rfl,.inr ?_⟩⟩)⟩
         show k.seen + 1 = inc64 (C.getD nb 0)
         have hq:=hf nb
         rw [hx,zG2 (by omega) (by omega)]
        ·exact .inr ⟨_,rfl,rfl,Int.le_refl _,by show (nb : Int) < nb + k.t; omega,hold nb,.inr (.inr ⟨ho,by show (nb : Int) - nb = 0; omega,.inr ⟨rfl,.inl rfl⟩⟩)⟩
       ·exact .inr ⟨_,rfl,rfl,Int.le_refl _,by show (nb : Int) < nb + k.t; omega,hold nb,.inr (.inr ⟨ho,by show (nb : Int) - nb = 0; omega,.inl rfl⟩)⟩
    ·split
     ·exact .inl rfl
     ·exact .inl rfl
 ·exact .inl rfl
structure PA (so : Int) (nb : Nat) (C : List Int) (k : Pu) : Prop where
 so' : k.tk.so = so
 word : k.ph = 0 → (k.cl.ph = 1 ∨ 1 ≤ k.cl.steps) → C.getD k.cl.slot.toNat 0 % 4 ≠ 1 ∧ C.getD k.cl.slot.toNat 0 / 8 % 8192 = k.cl.wg
 num : k.ph = 0 → so = 1 → k.tk.ph = 0 → k.who < k.tk.steps → low (C.getD (nb + k.who.toNat) 0) ≤ k.tk.seen
structure TA (N : Nat) (C : List Int) (L : List Ev) (a : Ta) : Prop where
 live : a.word % 4 = 1
 hz : a.next = 1 ∨ a.next = 2 → C.getD (2 * N + a.who.toNat) 0 = a.slot + 1
 word : a.next = 2 → (C.getD a.slot.toNat 0 = a.word ∨ C.getD a.slot.toNat 0 = tkW a.word) ∧ loadE L a.who a.slot = some a.word
def Pu.past (k : Pu) (g : Int) : Prop:=k.ph = 0 ∧ (k.cl.ph = 1 ∨ g < k.cl.steps - 1)
theorem zAj {x : Int} (h0 : 0 ≤ x) : tkW x % 4 = 2 ∧ tkW x / 4 % 2 = x / 4 % 2 ∧ tkW x / 8 % 8192 = x / 8 % 8192 ∧ tkW x / 65536 % 16777216 = x / 65536 % 16777216 ∧ tkW x / 1099511627776 = x / 1099511627776:=by
 unfold tkW
 have h1 : 0 ≤ x / 4 % 2 ∧ x / 4 % 2 < 2:=by omega
 have h2 : 0 ≤ x / 8 % 8192 ∧ x / 8 % 8192 < 8192:=by omega
 have h3 : 0 ≤ x / 65536 % 16777216 ∧ x / 65536 % 16777216 < 16777216:=by omega
 have h4 : 0 ≤ x / 1099511627776:=by omega
 generalize x / 4 % 2 = a at h1 ⊢
 generalize x / 8 % 8192 = b at h2 ⊢
 generalize x / 65536 % 16777216 = c at h3 ⊢
 generalize x / 1099511627776 = d at h4 ⊢
 omega
theorem zB5 {e g lo hi : Int} (e0 : 0 ≤ e) (e1 : e ≤ 1) (g0 : 0 ≤ g) (g1 : g ≤ 8190) (l0 : 0 ≤ lo) (l1 : lo ≤ hi) (l2 : hi < 16777215) :
  (1 + 4 * e + 8 * (g + 1) + 65536 * lo + 1099511627776 * hi) % 4 = 1 ∧ (1 + 4 * e + 8 * (g + 1) + 65536 * lo + 1099511627776 * hi) / 8 % 8192 = g + 1 ∧ (1 + 4 * e + 8 * (g + 1) + 65536 * lo + 1099511627776 * hi) / 65536 % 16777216 = lo ∧ (1 + 4 * e + 8 * (g + 1) + 65536 * lo + 1099511627776 * hi) / 1099511627776 = hi:=by
 omega
end
end Go.Proofs.YtjlpidjilonhfaaGreat
