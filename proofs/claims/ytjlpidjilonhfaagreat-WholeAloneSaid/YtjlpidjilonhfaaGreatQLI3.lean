/- Contracts and plain lemmas that these laws need. No condition. -/
import Derived.IntWalk
import Derived.Laws.CopyOwn
import Derived.Test.YtjlpidjilonhfaaGreatQLI1
namespace Go.Proofs.YtjlpidjilonhfaaGreat
set_option linter.unusedVariables false
set_option maxHeartbeats 8000000
set_option maxRecDepth 100000
section
open Go.RowKit
section
structure Tk where
 t : Int
 s : Int
 so : Int
 d : Int
 who : Int
 steps : Int
 seen : Int
 ph : Int
 lo : Int
 hi : Int
abbrev Tk.list (k : Tk) : List Value:=[i64 k.t,i64 k.s,i64 k.so,i64 k.d,i64 k.who,i64 k.steps,i64 k.seen,i64 k.ph,i64 k.lo,i64 k.hi]
structure IsTk (w : World) (b : Nat) (k : Tk) : Prop where
 c0 : w.cell? ⟨b,0,none⟩ = some (i64 k.t)
 c1 : w.cell? ⟨b,1,none⟩ = some (i64 k.s)
 c2 : w.cell? ⟨b,2,none⟩ = some (i64 k.so)
 c3 : w.cell? ⟨b,3,none⟩ = some (i64 k.d)
 c4 : w.cell? ⟨b,4,none⟩ = some (i64 k.who)
 c5 : w.cell? ⟨b,5,none⟩ = some (i64 k.steps)
 c6 : w.cell? ⟨b,6,none⟩ = some (i64 k.seen)
 c7 : w.cell? ⟨b,7,none⟩ = some (i64 k.ph)
 c8 : w.cell? ⟨b,8,none⟩ = some (i64 k.lo)
 c9 : w.cell? ⟨b,9,none⟩ = some (i64 k.hi)
 fz : ∀ o,w.frozen? ⟨b,o,none⟩ = false
theorem IsTk.lt {w : World} {b : Nat} {k : Tk} (h : IsTk w b k) : b < w.heap.size:=World.block_lt_of_cell? w _ h.c0
theorem IsTk.keep {w w' : World} {b : Nat} {k : Tk} {T : Nat → Prop} (h : IsTk w b k) (e : Keep T w w') (hn : ¬ T b) : IsTk w' b k :=
 ⟨e.cell h.c0 hn,e.cell h.c1 hn,e.cell h.c2 hn,e.cell h.c3 hn,e.cell h.c4 hn,e.cell h.c5 hn,e.cell h.c6 hn,e.cell h.c7 hn,e.cell h.c8 hn,e.cell h.c9 hn,fun o=>(e.frozen (a:=⟨b,o,none⟩) h.lt hn).trans (h.fz o)⟩
theorem IsTk.later {w w' : World} {b : Nat} {k : Tk} (h : IsTk w b k) (e : Below w.heap.size w w') : IsTk w' b k :=
 h.keep (T:=fun _=>False) (Keep.of_below e) (fun h=>h)
theorem IsTk.drew {w : World} {b : Nat} {k : Tk} (h : IsTk w b k) : IsTk w.drew b k:=⟨h.c0,h.c1,h.c2,h.c3,h.c4,h.c5,h.c6,h.c7,h.c8,h.c9,h.fz⟩
def low (x : Int) : Int:=min x 16777215
def fin (k : Tk) (lo hi : Int) : Tk:=if 0 ≤ lo ∧ lo ≤ hi ∧ hi < 16777215 then { k with ph:=1,lo:=lo,hi:=hi } else { k with ph:=2 }
def stp (nb : Nat) (k : Tk) (C : List Int) (now : Int) : Tk × List Int × Option Ev :=
 if k.ph = 0 then
  if k.so = 0 then (fin { k with steps:=k.steps + 1 } (low (C.getD nb 0)) (low (C.getD nb 0)),C.set nb (add64 (C.getD nb 0) 1),some ⟨k.who,3,nb,C.getD nb 0,add64 (C.getD nb 0) 1,true⟩)
  else if k.so = 1 then
   if k.steps < k.t then ({ k with steps:=k.steps + 1,seen:=max k.seen (low (C.getD (nb + k.steps.toNat) 0)) },C,some ⟨k.who,0,(nb + k.steps.toNat : Nat),C.getD (nb + k.steps.toNat) 0,C.getD (nb + k.steps.toNat) 0,true⟩)
   else if k.seen + 1 < 16777215 then ({ k with steps:=k.steps + 1,ph:=1,lo:=k.seen + 1,hi:=k.seen + 1 },C.set (nb + k.who.toNat) (k.seen + 1),some ⟨k.who,1,(nb + k.who.toNat : Nat),C.getD (nb + k.who.toNat) 0,k.seen + 1,true⟩)
   else ({ k with steps:=k.steps + 1,ph:=2 },C,none)
  else if k.so = 2 then
   if k.steps = 0 then ({ k with steps:=k.steps + 1,seen:=low (C.getD nb 0),ph:=if low (C.getD nb 0) = 16777215 then 2 else 0 },C,some ⟨k.who,0,nb,C.getD nb 0,C.getD nb 0,true⟩)
   else if k.steps = 1 then (if low (C.getD nb 0) = k.seen then { k with steps:=k.steps + 1 } else fin { k with steps:=k.steps + 1 } k.seen (low (C.getD nb 0) - 1),C,some ⟨k.who,0,nb,C.getD nb 0,C.getD nb 0,true⟩)
   else if k.steps = 2 then
    if C.getD nb 0 = k.seen then (fin { k with steps:=k.steps + 1 } k.seen k.seen,C.set nb (k.seen + 1),some ⟨k.who,2,nb,C.getD nb 0,k.seen + 1,true⟩)
    else ({ k with steps:=k.steps + 1 },C,some ⟨k.who,2,nb,C.getD nb 0,C.getD nb 0,false⟩)
   else (fin { k with steps:=k.steps + 1 } k.seen (low (C.getD nb 0) - 1),C,some ⟨k.who,0,nb,C.getD nb 0,C.getD nb 0,true⟩)
  else
   if k.so = 3 ∨ k.d < k.steps then (fin { k with steps:=k.steps + 1,seen:=if k.steps = 0 then low now else k.seen } (if k.steps = 0 then low now else k.seen) (low now),C,none)
   else ({ k with steps:=k.steps + 1,seen:=if k.steps = 0 then low now else k.seen },C,none)
 else (k,C,none)
structure Tk.Ok (k : Tk) (nb : Nat) (n : Int) (C : List Int) : Prop where
 lay : Lay k.t k.s n
 nt : (nb : Int) = 2 * n + k.t
 len : C.length = nb + k.t.toNat
 w0 : 0 ≤ k.who
 w1 : k.who < k.t
 s0 : 0 ≤ k.steps
 s1 : k.steps ≤ 1000000
 e0 : 0 ≤ k.seen
 e1 : k.seen ≤ 16777215
 o0 : 0 ≤ k.so
 o1 : k.so ≤ 4
 d0 : 0 ≤ k.d
 d1 : k.d ≤ 100
 p0 : 0 ≤ k.ph
 p1 : k.ph ≤ 2
 sw : k.so = 2 → 1 ≤ k.steps → k.ph = 0 → k.seen < 16777215
structure Stepped (base : Nat) (w w' : World) (b p c : Nat) (v v' : Value) (k' : Tk) (C' : List Int) (L' : List Ev) : Prop where
 tk : IsTk w' b k'
 mem : IsMem base w' p c v' C' L'
 apart : ¬ Foot p c v' b
 keep : Keep (fun i=>i = b ∨ Foot p c v i) w w'
 moved : Moved w v v'
 size : base ≤ w'.heap.size
section
variable {base : Nat} {w w1 w2 : World} {b p c : Nat} {v v1 v2 : Value} {k k1 k2 : Tk} {C C1 C2 : List Int} {L L1 L2 : List Ev}
theorem Stepped.refl (hT : IsTk w b k) (hM : IsMem base w p c v C L) (ha : ¬ Foot p c v b) (hb : base ≤ w.heap.size) : Stepped base w w b p c v v k C L :=
 ⟨hT,hM,ha,Keep.refl _ _,zBV _ _,hb⟩
theorem Stepped.later (h : Stepped base w w1 b p c v v1 k C L) (e : Below w1.heap.size w1 w2) : Stepped base w w2 b p c v v1 k C L :=
 ⟨h.tk.later e,h.mem.later e,h.apart,h.keep.trans (Keep.of_below e),h.moved,Nat.le_trans h.size e.size⟩
theorem Stepped.own (h : Stepped base w w1 b p c v v1 k C L) (hT : IsTk w2 b k2) (e : Keep (· = b) w1 w2) : Stepped base w w2 b p c v v1 k2 C L :=
 ⟨hT,h.mem.keep e (fun i hi hb=>h.apart (hb ▸ hi)),h.apart,h.keep.trans (e.mono fun _ h=>.inl h),h.moved,Nat.le_trans h.size e.size⟩
theorem Stepped.cells (h : Stepped base w w1 b p c v v1 k C L) (t : Touched base w1 w2 p c v1 v2 C2 L2) : Stepped base w w2 b p c v v2 k C2 L2 :=
 ⟨h.tk.keep t.keep h.apart,t.mem,fun hf=>(zEn t hf).elim h.apart (fun hs=>absurd h.tk.lt (by omega)),
  h.keep.then' t.keep (fun i hi=>by
   rcases hi with h1 | h1 | h1
   ·exact .inl (.inr (.inl h1))
   ·exact .inl (.inr (.inr (.inl h1)))
   ·exact (h.moved i h1).imp (fun h=>.inr (.inr (.inr h))) id),h.moved.trans t.moved h.keep.size,Nat.le_trans h.size t.keep.size⟩
theorem Stepped.trans (h : Stepped base w w1 b p c v v1 k C L) (t : Stepped base w1 w2 b p c v1 v2 k2 C2 L2) : Stepped base w w2 b p c v v2 k2 C2 L2 :=
 ⟨t.tk,t.mem,t.apart,h.keep.then' t.keep (fun i hi=>by
   rcases hi with h1 | h1 | h1 | h1
   ·exact .inl (.inl h1)
   ·exact .inl (.inr (.inl h1))
   ·exact .inl (.inr (.inr (.inl h1)))
   ·exact (h.moved i h1).imp (fun h=>.inr (.inr (.inr h))) id),h.moved.trans t.moved h.keep.size,t.size⟩
theorem Stepped.drew (h : Stepped base w w1 b p c v v1 k C L) : Stepped base w w1.drew b p c v v1 k C L:=h.later (Below.refl _ _).drew
end
def TickPost (base : Nat) (w : World) (b p c : Nat) (v : Value) (k' : Tk) (C' : List Int) (L' : List Ev) (e0 : Ending) (e : Ending) (w' : World) : Prop :=
 e = e0 ∧ ∃ v',Stepped base w w' b p c v v' k' C' L'
end
section
theorem zDt (x : Int) (h0 : 0 ≤ x) : 0 ≤ low x ∧ low x ≤ 16777215:=by unfold low; omega
theorem zEY {a b : Int} (h : a = b) : Ending.returned (i64 a) = .returned (i64 b):=by rw [h]
theorem zCf (x : Int) (w : World) (h0 : 0 ≤ x) (h1 : x ≤ 18446744073709551615) :
  Calls Tryz.prog 95 #[u64 x] w fun r w'=>r = .returned (i64 (low x)) ∧ w = w':=by
 by_cases hx : x ≤ 16777215
 ·have e : low x = x:=by unfold low; omega
  have E:=zIo e
  clear e
  go_enter Tryz.func95,Tryz.ntmps95
  go_wp2
  go_ret
  exact ⟨zEY (by rw [E.out]),rfl⟩
 ·have e : low x = 16777215:=by unfold low; omega
  have E:=zIo e
  clear e
  go_enter Tryz.func95,Tryz.ntmps95
  go_wp2
  go_ret
  exact ⟨zEY (by rw [E.out]),rfl⟩
theorem setTk {w : World} {b : Nat} {k k' : Tk} (h : IsTk w b k) (i : Nat) (u : Value) (hk : (k.list.set i u) = k'.list) : IsTk (w.setCell ⟨b,i,none⟩ u) b k':=by
 have hc : ∀ j x,k.list[j]? = some x → w.cell? ⟨b,j,none⟩ = some x:=by
  intro j x hj
  obtain ⟨c0,c1,c2,c3,c4,c5,c6,c7,c8,c9,_⟩:=h
  rcases j with _ | _ | _ | _ | _ | _ | _ | _ | _ | _ | j
  all_goals first | (simp at hj; subst hj; assumption) | (simp at hj)
 have hn : ∀ j x,k'.list[j]? = some x → (w.setCell ⟨b,i,none⟩ u).cell? ⟨b,j,none⟩ = some x:=by
  intro j x hj
  rw [← hk,List.getElem?_set] at hj
  by_cases hij : i = j
  ·subst hij
   simp only [if_true] at hj
   split at hj
   ·rename_i hl
    cases hj
    exact World.cell?_setCell_same _ _ _ (hc i _ (List.getElem?_eq_getElem hl))
   ·cases hj
  ·rw [if_neg hij] at hj
   rw [World.cell?_setCell_other _ _ _ _ (fun e=>hij (by injection e))]
   exact hc j x hj
 exact ⟨hn 0 _ rfl,hn 1 _ rfl,hn 2 _ rfl,hn 3 _ rfl,hn 4 _ rfl,hn 5 _ rfl,hn 6 _ rfl,hn 7 _ rfl,hn 8 _ rfl,hn 9 _ rfl,fun o=>by rw [World.frozen?_setCell]; exact h.fz o⟩
def At2 (b : Nat) (x y : Int) (w : World) : Prop:=w.cell? ⟨b,0,none⟩ = some (i64 x) ∧ w.cell? ⟨b,1,none⟩ = some (i64 y)
theorem Keep.own {b : Nat} {w w' : World} (h : Keep (· = b) w w') (o : Nat) (u : Value) : Keep (· = b) w (w'.setCell ⟨b,o,none⟩ u):=h.setCell _ rfl u
theorem At2.set {b a x y : _} {w : World} (h : At2 b x y w) (o : Nat) (u : Value) (hne : a ≠ b) : At2 b x y (w.setCell ⟨a,o,none⟩ u) :=
 ⟨by rw [World.cell?_setCell_other _ _ _ _ (fun e=>hne (by injection e))]; exact h.1,by rw [World.cell?_setCell_other _ _ _ _ (fun e=>hne (by injection e))]; exact h.2⟩
theorem zCj (w : World) (b : Nat) (k : Tk) (x y : Int) (hT : IsTk w b k) (h : 0 ≤ x ∧ x ≤ y ∧ y < 16777215) :
  Calls Tryz.prog 98 #[pt b,i64 x,i64 y] w fun r w'=>r = .returned (.bool true) ∧ IsTk w' b { k with ph:=1,lo:=x,hi:=y } ∧ Keep (· = b) w w':=by
 have hr : rightB x y = true:=by simp [rightB,h]
 have hlt:=hT.lt
 have hR:=fun W=>zDv x y W
 rw [hr] at hR
 have HR:=zIo hR
 have HT:=zIo hT
 clear hR hr hT h
 go_enter Tryz.func98,Tryz.ntmps98
 go_wp2_with fail
 refine (HR.out _).mono ?_
 rintro r w1 ⟨rfl,hb1⟩
 have hA : At2 w.heap.size x y w1:=⟨by rw [hb1.cell (p:=⟨w.heap.size,0,none⟩) (by simp)]; exact World.cell?_alloc_new w _ _ 0,by rw [hb1.cell (p:=⟨w.heap.size,1,none⟩) (by simp)]; exact World.cell?_alloc_new w _ _ 1⟩
 have hT1:=(HT.out.later (zAA (Below.refl _ _) (.cells #[.int .i64 x,.int .i64 y] 57))).later hb1
 have hB1 : Below w.heap.size w w1:=zAE (zAA (Below.refl _ _) _) hb1
 have HB1:=zIo hB1
 have HA:=zIo hA
 clear hA hB1 hb1
 go_wp2_with fail
 refine zAD ((At2 w.heap.size x y)) ((0,true) :: (1,true) :: (2,true) :: (3,true) :: (4,true) :: (5,false) :: (6,true) :: (7,true) :: (8,false) :: []) (by kernel_rfl) (by kernel_rfl) (by kernel_rfl) (by decide) (fun _ _ _ _ _ h=>h) (HA.out) ?_
 repeat ((first | (refine zAC (v := ?_) rfl ?_ ?_ ?_; rotate_left 1; rfl; focus (rintro wS ⟨s0,s1⟩; go_simp <;> with_reducible rfl)) | (refine zAB rfl ?_ ?_; rfl)); try simp only [Act.put,qset])
 obtain ⟨c0,c1,c2,c3,c4,c5,c6,c7,c8,c9,fz⟩:=id hT1
 have f7:=fz 7
 have f8:=fz 8
 have f9:=fz 9
 clear fz
 refine zAH rfl (fun K hK=>?_)
 go_simp
 have hne : b ≠ w.heap.size:=by omega
 have hA2:=(HA.out.set 7 (.int .i64 1) hne)
 have HA2:=zIo hA2
 clear hA2
 refine hK.out _ _ (HA2.out) (fun _=>?_)
 (try simp only [Act.put,qset])
 clear hK K
 repeat ((first | (refine zAC (v := ?_) rfl ?_ ?_ ?_; rotate_left 1; rfl; focus (rintro wS ⟨s0,s1⟩; go_simp <;> with_reducible rfl)) | (refine zAB rfl ?_ ?_; rfl)); try simp only [Act.put,qset])
 refine zAH rfl (fun K hK=>?_)
 go_simp
 have hA3:=(HA2.out.set 8 (.int .i64 x) hne).set 9 (.int .i64 y) hne
 have HA3:=zIo hA3
 clear hA3
 refine hK.out _ _ (HA3.out) (fun _=>?_)
 (try simp only [Act.put,qset])
 clear hK K
 refine zAJ ?_
 go_wp2
 go_ret
 have hT2:=setTk hT1 (k' := { k with ph:=1 }) 7 (.int .i64 1) rfl
 have hT3:=setTk hT2 (k' := { k with ph:=1,lo:=x }) 8 (.int .i64 x) rfl
 have hT4:=setTk hT3 (k' := { k with ph:=1,lo:=x,hi:=y }) 9 (.int .i64 y) rfl
 exact ⟨rfl,hT4.drew,((((Keep.of_below HB1.out).own 7 _).own 8 _).own 9 _).drew⟩
theorem zDr (w : World) (b : Nat) (k : Tk) (x y : Int) (hT : IsTk w b k) (h : ¬ (0 ≤ x ∧ x ≤ y ∧ y < 16777215)) :
  Calls Tryz.prog 98 #[pt b,i64 x,i64 y] w fun r w'=>r = .returned (.bool false) ∧ IsTk w' b { k with ph:=2 } ∧ Keep (· = b) w w':=by
 have hr : rightB x y = false:=by simp only [rightB,decide_eq_false_iff_not]; exact h
 have hR:=fun W=>zDv x y W
 rw [hr] at hR
 have HR:=zIo hR
 have HT:=zIo hT
 clear hR hr hT h
 go_enter Tryz.func98,Tryz.ntmps98
 go_wp2_with fail
 refine (HR.out _).mono ?_
 rintro r w1 ⟨rfl,hb1⟩
 have hT1:=(HT.out.later (zAA (Below.refl _ _) (.cells #[.int .i64 x,.int .i64 y] 57))).later hb1
 have hB1 : Below w.heap.size w w1:=zAE (zAA (Below.refl _ _) _) hb1
 have HB1:=zIo hB1
 clear hB1 hb1
 have c7:=hT1.c7
 have f7:=hT1.fz 7
 have HT1:=zIo hT1
 clear hT1
 go_wp2
 go_ret
 exact ⟨rfl,setTk HT1.out (k' := { k with ph:=2 }) 7 (.int .i64 2) rfl,(Keep.of_below HB1.out).own 7 _⟩
theorem zB0 (k : Tk) {x y : Int} (h : 0 ≤ x ∧ x ≤ y ∧ y < 16777215) : fin k x y = { k with ph:=1,lo:=x,hi:=y }:=if_pos h
theorem zH3 (k : Tk) {x y : Int} (h : ¬ (0 ≤ x ∧ x ≤ y ∧ y < 16777215)) : fin k x y = { k with ph:=2 }:=if_neg h
theorem zAd (w : World) (b : Nat) (k : Tk) (x y : Int) (hT : IsTk w b k) :
  Calls Tryz.prog 98 #[pt b,i64 x,i64 y] w fun r w'=>(∃ g,r = .returned (.bool g)) ∧ IsTk w' b (fin k x y) ∧ Keep (· = b) w w':=by
 by_cases h : 0 ≤ x ∧ x ≤ y ∧ y < 16777215
 ·rw [zB0 k h]
  exact (zCj w b k x y hT h).mono fun r w' ⟨h1,h2⟩=>⟨⟨_,h1⟩,h2⟩
 ·rw [zH3 k h]
  exact (zDr w b k x y hT h).mono fun r w' ⟨h1,h2⟩=>⟨⟨_,h1⟩,h2⟩
theorem zG0 (t s so d n : Int) (nb j : Nat) (w : World) (h : Lay t s n) (hnb : (nb : Int) = 2 * n + t) (hj : (j : Int) ≤ t) :
  Calls Tryz.prog 97 #[cf t s so d,i64 j] w fun r w'=>r = .returned (i64 (nb + j : Nat)) ∧ Below w.heap.size w w':=by
 have:=zCe t s so d n j w h (by omega) hj
 rw [show (2 * n + t + (j : Int)) = ((nb + j : Nat) : Int) by omega] at this
 exact this
theorem zGp (t s so d n : Int) (nb : Nat) (w : World) (h : Lay t s n) (hnb : (nb : Int) = 2 * n + t) :
  Calls Tryz.prog 97 #[cf t s so d,i64 0] w fun r w'=>r = .returned (i64 nb) ∧ Below w.heap.size w w':=by
 have:=zCe t s so d n 0 w h (by omega) (by have:=h.t1; omega)
 rw [show (2 * n + t + (0 : Int)) = (nb : Int) by omega] at this
 exact this
section
variable (base : Nat) (w : World) (b p c : Nat) (v : Value) (C : List Int) (L : List Ev) (k : Tk) (nb : Nat) (n : Int)
theorem zDX (j : Nat) (x : Int) (hT : IsTk w b k) (hM : IsMem base w p c v C L) (ha : ¬ Foot p c v b) (hl : Lay k.t k.s n) (hnb : (nb : Int) = 2 * n + k.t) (hj : (j : Int) ≤ k.t) (hx : C[nb + j]? = some x) (hb : base ≤ w.heap.size) (hL : L.length < 1000000000) :
  Calls Tryz.prog 99 #[pt b,pt p,i64 j] w (TickPost base w b p c v k C (L ++ [⟨k.who,0,(nb + j : Nat),x,x,true⟩]) (.returned (i64 (low x)))):=by
 have HS:=zIo (Stepped.refl hT hM ha hb)
 have HX:=zIo hx
 have Hnb:=zIo hnb
 have hn:=hM.numAt hx
 clear hM ha hx hnb
 go_enter Tryz.func99,Tryz.ntmps99
 go_wp2_with fail
 refine zAD ((fun w'=>IsTk w' b k)) ((0,true) :: (1,true) :: (2,true) :: (3,true) :: (4,true) :: (5,true) :: (6,true) :: (7,true) :: (8,true) :: (9,true) :: (10,false) :: (11,false) :: (12,false) :: (13,true) :: []) (by kernel_rfl) (by kernel_rfl) (by kernel_rfl) (by decide) (fun _ _ _ _ _ h=>h) (hT.drew) ?_
 clear hT
 repeat ((first | (refine zAC (v := ?_) rfl ?_ ?_ ?_; rotate_left 1; rfl; focus (rintro wS ⟨s0,s1,s2,s3,s4,s5,s6,s7,s8,s9,sf⟩; go_simp <;> with_reducible rfl)) | (refine zAB rfl ?_ ?_; rfl)); try simp only [Act.put,qset])
 refine zAH rfl (fun K hK=>?_)
 go_simp
 go_at_call 97
 refine (zG0 _ _ _ _ n nb j _ hl Hnb.out hj).mono ?_
 rintro r w1 ⟨rfl,hb1⟩
 (try go_wp2_with fail)
 replace HS:=zIo (HS.out.drew.later hb1)
 clear hb1
 refine hK.out _ _ (HS.out.tk) (fun _=>?_)
 (try simp only [Act.put,qset])
 clear hK K
 repeat ((first | (refine zAC (v := ?_) rfl ?_ ?_ ?_; rotate_left 1; rfl; focus (rintro wS ⟨s0,s1,s2,s3,s4,s5,s6,s7,s8,s9,sf⟩; go_simp <;> with_reducible rfl)) | (refine zAB rfl ?_ ?_; rfl)); try simp only [Act.put,qset])
 refine zAH rfl (fun K hK=>?_)
 go_simp
 go_at_call 92
 refine (zAt base _ p c _ _ _ k.who (nb + j) x HS.out.mem HX.out HS.out.size hL).mono ?_
 rintro r w2 ⟨rfl,v2,hT2⟩
 (try go_wp2_with fail)
 replace HS:=zIo (HS.out.cells hT2)
 clear hT2
 refine hK.out _ _ (HS.out.tk) (fun _=>?_)
 (try simp only [Act.put,qset])
 clear hK K
 repeat ((first | (refine zAC (v := ?_) rfl ?_ ?_ ?_; rotate_left 1; rfl; focus (rintro wS ⟨s0,s1,s2,s3,s4,s5,s6,s7,s8,s9,sf⟩; go_simp <;> with_reducible rfl)) | (refine zAB rfl ?_ ?_; rfl)); try simp only [Act.put,qset])
 refine zAH rfl (fun K hK=>?_)
 go_simp
 go_at_call 95
 refine (zCf x _ hn.1 hn.2).mono ?_
 rintro r w3 ⟨rfl,rfl⟩
 (try go_wp2_with fail)
 refine hK.out _ _ (HS.out.tk) (fun _=>?_)
 (try simp only [Act.put,qset])
 clear hK K
 repeat ((first | (refine zAC (v := ?_) rfl ?_ ?_ ?_; rotate_left 1; rfl; focus (rintro wS ⟨s0,s1,s2,s3,s4,s5,s6,s7,s8,s9,sf⟩; go_simp <;> with_reducible rfl)) | (refine zAB rfl ?_ ?_; rfl)); try simp only [Act.put,qset])
 refine zAJ ?_
 go_wp2
 go_ret
 exact ⟨rfl,_,HS.out⟩
theorem zFZ (x : Int) (hT : IsTk w b k) (hM : IsMem base w p c v C L) (ha : ¬ Foot p c v b) (hl : Lay k.t k.s n) (hnb : (nb : Int) = 2 * n + k.t) (hx : C[nb]? = some x) (hb : base ≤ w.heap.size) (hL : L.length < 1000000000) :
  Calls Tryz.prog 79 #[pt b,pt p] w (TickPost base w b p c v (fin k (low x) (low x)) (C.set nb (add64 x 1)) (L ++ [⟨k.who,3,nb,x,add64 x 1,true⟩]) (.returned (.tuple #[]))):=by
 have HS:=zIo (Stepped.refl hT hM ha hb)
 have HX:=zIo hx
 have Hnb:=zIo hnb
 have hn:=hM.numAt hx
 clear hM ha hx hnb
 go_enter Tryz.func79,Tryz.ntmps79
 go_wp2_with fail
 refine zAD ((fun w'=>IsTk w' b k)) ((0,true) :: (1,true) :: (2,true) :: (3,true) :: (4,true) :: (5,true) :: (6,true) :: (7,true) :: (8,true) :: (9,false) :: (10,false) :: (11,false) :: (12,true) :: []) (by kernel_rfl) (by kernel_rfl) (by kernel_rfl) (by decide) (fun _ _ _ _ _ h=>h) (hT.drew) ?_
 clear hT
 repeat ((first | (refine zAC (v := ?_) rfl ?_ ?_ ?_; rotate_left 1; rfl; focus (rintro wS ⟨s0,s1,s2,s3,s4,s5,s6,s7,s8,s9,sf⟩; go_simp <;> with_reducible rfl)) | (refine zAB rfl ?_ ?_; rfl)); try simp only [Act.put,qset])
 refine zAH rfl (fun K hK=>?_)
 go_simp
 go_at_call 97
 refine (zGp _ _ _ _ n nb _ hl Hnb.out).mono ?_
 rintro r w1 ⟨rfl,hb1⟩
 (try go_wp2_with fail)
 replace HS:=zIo (HS.out.drew.later hb1)
 clear hb1
 refine hK.out _ _ (HS.out.tk) (fun _=>?_)
 (try simp only [Act.put,qset])
 clear hK K
 repeat ((first | (refine zAC (v := ?_) rfl ?_ ?_ ?_; rotate_left 1; rfl; focus (rintro wS ⟨s0,s1,s2,s3,s4,s5,s6,s7,s8,s9,sf⟩; go_simp <;> with_reducible rfl)) | (refine zAB rfl ?_ ?_; rfl)); try simp only [Act.put,qset])
 refine zAH rfl (fun K hK=>?_)
 go_simp
 go_at_call 96
 refine (add_in base _ p c _ _ _ k.who nb x 1 HS.out.mem HX.out HS.out.size hL).mono ?_
 rintro r w2 ⟨rfl,v2,hT2⟩
 (try go_wp2_with fail)
 replace HS:=zIo (HS.out.cells hT2)
 clear hT2
 refine hK.out _ _ (HS.out.tk) (fun _=>?_)
 (try simp only [Act.put,qset])
 clear hK K
 repeat ((first | (refine zAC (v := ?_) rfl ?_ ?_ ?_; rotate_left 1; rfl; focus (rintro wS ⟨s0,s1,s2,s3,s4,s5,s6,s7,s8,s9,sf⟩; go_simp <;> with_reducible rfl)) | (refine zAB rfl ?_ ?_; rfl)); try simp only [Act.put,qset])
 refine zAH rfl (fun K hK=>?_)
 go_simp
 go_at_call 95
 refine (zCf x _ hn.1 hn.2).mono ?_
 rintro r w3 ⟨rfl,rfl⟩
 (try go_wp2_with fail)
 refine hK.out _ _ (HS.out.tk) (fun _=>?_)
 (try simp only [Act.put,qset])
 clear hK K
 repeat ((first | (refine zAC (v := ?_) rfl ?_ ?_ ?_; rotate_left 1; rfl; focus (rintro wS ⟨s0,s1,s2,s3,s4,s5,s6,s7,s8,s9,sf⟩; go_simp <;> with_reducible rfl)) | (refine zAB rfl ?_ ?_; rfl)); try simp only [Act.put,qset])
 refine zAJ ?_
 go_wp2_with fail
 refine (zAd _ b k _ _ HS.out.tk).mono ?_
 rintro r w4 ⟨⟨g,rfl⟩,hT4,hK4⟩
 go_wp2
 go_end0
 exact ⟨rfl,_,HS.out.own hT4 hK4⟩
end
end
section
section
variable (base : Nat) (w : World) (b p c : Nat) (v : Value) (C : List Int) (L : List Ev) (k : Tk) (nb : Nat) (n : Int)
theorem zHR (i : Int) (j : Nat) (hi : i = (j : Int)) (x : Int) (hT : IsTk w b k) (hM : IsMem base w p c v C L) (ha : ¬ Foot p c v b) (hl : Lay k.t k.s n) (hnb : (nb : Int) = 2 * n + k.t) (hj : (j : Int) ≤ k.t) (hx : C[nb + j]? = some x) (hb : base ≤ w.heap.size) (hL : L.length < 1000000000) :
  Calls Tryz.prog 99 #[pt b,pt p,i64 i] w (TickPost base w b p c v k C (L ++ [⟨k.who,0,(nb + j : Nat),x,x,true⟩]) (.returned (i64 (low x)))):=by
 subst hi
 exact zDX base w b p c v C L k nb n j x hT hM ha hl hnb hj hx hb hL
theorem zDG (x : Int) (hT : IsTk w b k) (hM : IsMem base w p c v C L) (ha : ¬ Foot p c v b) (hl : Lay k.t k.s n) (hnb : (nb : Int) = 2 * n + k.t) (hx : C[nb]? = some x) (hb : base ≤ w.heap.size) (hL : L.length < 1000000000) :
  Calls Tryz.prog 99 #[pt b,pt p,i64 0] w (TickPost base w b p c v k C (L ++ [⟨k.who,0,nb,x,x,true⟩]) (.returned (i64 (low x)))) :=
 zDX base w b p c v C L k nb n 0 x hT hM ha hl hnb (by have:=hl.t1; omega) hx hb hL
theorem zDZ (j : Nat) (x : Int) (hj : k.steps = (j : Int)) (hlt : k.steps < k.t) (hT : IsTk w b k) (hM : IsMem base w p c v C L) (ha : ¬ Foot p c v b) (hl : Lay k.t k.s n) (hnb : (nb : Int) = 2 * n + k.t) (hx : C[nb + j]? = some x) (hb : base ≤ w.heap.size) (hL : L.length < 1000000000) :
    Calls Tryz.prog 80 #[pt b,pt p] w (TickPost base w b p c v { k with seen:=max k.seen (low x) } C (L ++ [⟨k.who,0,(nb + j : Nat),x,x,true⟩]) (.returned (.tuple #[]))):=by
  have HS:=zIo (Stepped.refl hT hM ha hb)
  have HX:=zIo hx
  have Hnb:=zIo hnb
  have Hj:=zIo hj
  have hjt : (j : Int) ≤ k.t:=by omega
  clear hM ha hx hnb hj
  go_enter Tryz.func80,Tryz.ntmps80
  go_wp2_with fail
  refine zAD ((fun w'=>IsTk w' b k)) ((0,true) :: (1,true) :: (2,true) :: (3,true) :: (4,true) :: (5,true) :: (6,true) :: (7,true) :: (8,true) :: (9,true) :: []) (by kernel_rfl) (by kernel_rfl) (by kernel_rfl) (by decide) (fun _ _ _ _ _ h=>h) (hT.drew) ?_
  clear hT
  repeat ((first | (refine zAC (v := ?_) rfl ?_ ?_ ?_; rotate_left 1; rfl; focus (rintro wS ⟨s0,s1,s2,s3,s4,s5,s6,s7,s8,s9,sf⟩; go_simp <;> with_reducible rfl)) | (refine zAB rfl ?_ ?_; rfl)); try simp only [Act.put,qset])
  refine zAJ ?_
  replace HS:=zIo HS.out.drew
  obtain ⟨s0,s1,s2,s3,s4,s5,s6,s7,s8,s9,sf⟩:=id HS.out.tk
  have f6:=sf 6
  clear sf
  go_wp2_with fail
  replace HS:=zIo HS.out.drew
  go_region_law (go_simp; go_at_call 99; refine (zHR base _ b p c _ C L k nb n _ j Hj.out x HS.out.tk HS.out.mem HS.out.apart hl Hnb.out hjt HX.out HS.out.size hL).mono ?_; rintro r w1 ⟨rfl,v1,hS1⟩; obtain ⟨t0,t1,t2,t3,t4,t5,t6,t7,t8,t9,tf⟩:=id hS1.tk; have g6:=tf 6; clear tf)
  all_goals
    replace HS:=zIo (HS.out.trans hS1)
    clear hS1
    go_wp2
  all_goals
    go_end0
    first
    | (rw [show max k.seen (low x) = low x by omega]
       exact ⟨rfl,_,HS.out.own (setTk HS.out.tk (k' := { k with seen:=low x }) 6 (.int .i64 (low x)) rfl) ((Keep.refl _ _).own 6 _)⟩)
    | (rw [show max k.seen (low x) = k.seen by omega]
       exact ⟨rfl,_,HS.out.own (setTk HS.out.tk (k' := { k with seen:=k.seen }) 6 (.int .i64 k.seen) rfl) ((Keep.refl _ _).own 6 _)⟩)
theorem zDy (hge : k.t ≤ k.steps) (e0 : 0 ≤ k.seen) (e1 : k.seen ≤ 16777215) (hfull : 16777215 ≤ k.seen + 1) (hT : IsTk w b k) (hM : IsMem base w p c v C L) (ha : ¬ Foot p c v b) (hb : base ≤ w.heap.size) :
  Calls Tryz.prog 80 #[pt b,pt p] w (TickPost base w b p c v { k with ph:=2 } C L (.returned (.tuple #[]))):=by
 have HS:=zIo (Stepped.refl hT hM ha hb)
 have hge' : ¬ k.steps < k.t:=by omega
 clear hM ha
 go_enter Tryz.func80,Tryz.ntmps80
 go_wp2_with fail
 refine zAD ((fun w'=>IsTk w' b k)) ((0,true) :: (1,true) :: (2,true) :: (3,true) :: (4,true) :: (5,true) :: (6,true) :: (7,true) :: (8,true) :: (9,true) :: []) (by kernel_rfl) (by kernel_rfl) (by kernel_rfl) (by decide) (fun _ _ _ _ _ h=>h) (hT.drew) ?_
 clear hT
 repeat ((first | (refine zAC (v := ?_) rfl ?_ ?_ ?_; rotate_left 1; rfl; focus (rintro wS ⟨s0,s1,s2,s3,s4,s5,s6,s7,s8,s9,sf⟩; go_simp <;> with_reducible rfl)) | (refine zAB rfl ?_ ?_; rfl)); try simp only [Act.put,qset])
 refine zAJ ?_
 replace HS:=zIo HS.out.drew
 obtain ⟨s0,s1,s2,s3,s4,s5,s6,s7,s8,s9,sf⟩:=id HS.out.tk
 clear sf
 go_wp2_with fail
 refine (zDr _ b k _ _ HS.out.tk (by omega)).mono ?_
 rintro r w1 ⟨rfl,hT1,hK1⟩
 replace HS:=zIo (HS.out.own hT1 hK1)
 clear hT1 hK1 s0 s1 s2 s3 s4 s5 s6 s7 s8 s9
 go_wp2
 go_end0
 exact ⟨rfl,_,HS.out⟩
theorem zDc (j : Nat) (x : Int) (hj : k.who = (j : Int)) (hjt : k.who < k.t) (hge : k.t ≤ k.steps) (e0 : 0 ≤ k.seen) (hfull : k.seen + 1 < 16777215) (hT : IsTk w b k) (hM : IsMem base w p c v C L) (ha : ¬ Foot p c v b) (hl : Lay k.t k.s n) (hnb : (nb : Int) = 2 * n + k.t) (hx : C[nb + j]? = some x) (hb : base ≤ w.heap.size) (hL : L.length < 1000000000) :
  Calls Tryz.prog 80 #[pt b,pt p] w (TickPost base w b p c v { k with ph:=1,lo:=k.seen + 1,hi:=k.seen + 1 } (C.set (nb + j) (k.seen + 1)) (L ++ [⟨k.who,1,(nb + j : Nat),x,k.seen + 1,true⟩]) (.returned (.tuple #[]))):=by
 have HS:=zIo (Stepped.refl hT hM ha hb)
 have HX:=zIo hx
 have Hnb:=zIo hnb
 have hjt' : (j : Int) ≤ k.t:=by omega
 have HN:=fun W=>zG0 k.t k.s k.so k.d n nb j W hl hnb hjt'
 rw [← hj] at HN
 have EW : Hid (IntKind.u64.wrap (k.seen + 1) = k.seen + 1):=by show _ = _; rw [IntKind.wrap_u64]; omega
 replace HN:=zIo HN
 have hge' : ¬ k.steps < k.t:=by omega
 clear hM ha hx hnb hj
 go_enter Tryz.func80,Tryz.ntmps80
 go_wp2_with fail
 refine zAD ((fun w'=>IsTk w' b k)) ((0,true) :: (1,true) :: (2,true) :: (3,true) :: (4,true) :: (5,true) :: (6,true) :: (7,true) :: (8,true) :: (9,true) :: []) (by kernel_rfl) (by kernel_rfl) (by kernel_rfl) (by decide) (fun _ _ _ _ _ h=>h) (hT.drew) ?_
 clear hT
 repeat ((first | (refine zAC (v := ?_) rfl ?_ ?_ ?_; rotate_left 1; rfl; focus (rintro wS ⟨s0,s1,s2,s3,s4,s5,s6,s7,s8,s9,sf⟩; go_simp <;> with_reducible rfl)) | (refine zAB rfl ?_ ?_; rfl)); try simp only [Act.put,qset])
 refine zAJ ?_
 replace HS:=zIo HS.out.drew
 obtain ⟨s0,s1,s2,s3,s4,s5,s6,s7,s8,s9,sf⟩:=id HS.out.tk
 clear sf
 go_wp2_with fail
 refine (zCj _ b k _ _ HS.out.tk (by omega)).mono ?_
 rintro r w1 ⟨rfl,hT1,hK1⟩
 replace HS:=zIo (HS.out.own hT1 hK1)
 clear hT1 hK1 s0 s1 s2 s3 s4 s5 s6 s7 s8 s9
 go_wp2_with fail
 refine zAD ((fun w'=>IsTk w' b { k with ph:=1,lo:=k.seen + 1,hi:=k.seen + 1 })) ((0,true) :: (1,true) :: (2,true) :: (3,true) :: (4,true) :: (5,true) :: (6,true) :: (7,true) :: (8,true) :: (9,true) :: (10,true) :: (11,true) :: (12,true) :: (14,true) :: (15,true) :: (13,false) :: (16,false) :: []) (by kernel_rfl) (by kernel_rfl) (by kernel_rfl) (by decide) (fun _ _ _ _ _ h=>h) (HS.out.drew.tk) ?_
 repeat ((first | (refine zAC (v := ?_) rfl ?_ ?_ ?_; rotate_left 1; rfl; focus (rintro wS ⟨s0,s1,s2,s3,s4,s5,s6,s7,s8,s9,sf⟩; go_simp <;> with_reducible rfl)) | (refine zAB rfl ?_ ?_; rfl)); try simp only [Act.put,qset])
 refine zAH rfl (fun K hK=>?_)
 go_simp
 go_at_call 97
 refine (HN.out _).mono ?_
 rintro r w1 ⟨rfl,hb1⟩
 (try go_wp2_with fail)
 replace HS:=zIo (HS.out.drew.later hb1)
 clear hb1
 refine hK.out _ _ (HS.out.tk) (fun _=>?_)
 (try simp only [Act.put,qset])
 clear hK K
 repeat ((first | (refine zAC (v := ?_) rfl ?_ ?_ ?_; rotate_left 1; rfl; focus (rintro wS ⟨s0,s1,s2,s3,s4,s5,s6,s7,s8,s9,sf⟩; go_simp <;> with_reducible rfl)) | (refine zAB rfl ?_ ?_; rfl)); try simp only [Act.put,qset])
 refine zAH rfl (fun K hK=>?_)
 go_simp
 go_at_call 64
 rw [EW.out]
 refine (zBS base _ p c _ _ _ k.who (nb + j) x _ HS.out.mem HX.out HS.out.size hL (by omega) (by omega)).mono ?_
 rintro r w2 ⟨rfl,v2,hT2⟩
 (try go_wp2_with fail)
 replace HS:=zIo (HS.out.cells hT2)
 clear hT2
 refine hK.out _ _ (HS.out.tk) (fun _=>?_)
 (try simp only [Act.put,qset])
 clear hK K
 refine zAJ ?_
 go_wp2
 go_end0
 exact ⟨rfl,_,HS.out⟩
theorem swap_0 (x : Int) (hs : k.steps = 0) (hT : IsTk w b k) (hM : IsMem base w p c v C L) (ha : ¬ Foot p c v b) (hl : Lay k.t k.s n) (hnb : (nb : Int) = 2 * n + k.t) (hx : C[nb]? = some x) (hb : base ≤ w.heap.size) (hL : L.length < 1000000000) (hp : k.ph = 0) :
  Calls Tryz.prog 81 #[pt b,pt p] w (TickPost base w b p c v { k with seen:=low x,ph:=if low x = 16777215 then 2 else 0 } C (L ++ [⟨k.who,0,nb,x,x,true⟩]) (.returned (.tuple #[]))):=by
 have HS:=zIo (Stepped.refl hT hM ha hb)
 have HX:=zIo hx
 have Hnb:=zIo hnb
 have q0 : (k.steps == 0) = true:=by simp [hs]
 have q3 : (k.steps == 1) = false:=by simp [hs]
 have q2 : (k.steps == 2) = false:=by simp [hs]
 have Hp:=zIo hp
 clear hM ha hx hnb hs hp
 obtain ⟨s0,s1,s2,s3,s4,s5,s6,s7,s8,s9,sf⟩:=id hT
 clear sf hT
 have hf2 : ((low x == 16777215) = true ∧ low x = 16777215) ∨ ((low x == 16777215) = false ∧ ¬ low x = 16777215):=by
  by_cases h : low x = 16777215
  ·exact .inl ⟨by simp [h],h⟩
  ·exact .inr ⟨by simp [h],h⟩
 rcases hf2 with ⟨qf,hfull⟩ | ⟨qf,hfull⟩
 all_goals
  have Hf:=zIo hfull
  clear hfull
  go_enter Tryz.func81,Tryz.ntmps81
  go_wp2_with fail
  refine (zDG base _ b p c _ C L k nb n x HS.out.tk HS.out.mem HS.out.apart hl Hnb.out HX.out HS.out.size hL).mono ?_
  rintro r w1 ⟨rfl,v1,hS1⟩
  replace HS:=zIo (HS.out.trans hS1)
  clear hS1
  obtain ⟨t0,t1,t2,t3,t4,t5,t6,t7,t8,t9,tf⟩:=id HS.out.tk
  have g6:=tf 6
  have g7:=tf 7
  clear tf
  go_wp2
  go_end0
  first
  | (exact ⟨rfl,_,HS.out.own (setTk (setTk HS.out.tk (k' := { k with seen:=16777215 }) 6 (.int .i64 16777215) rfl) (k' := { k with seen:=16777215,ph:=2 }) 7 (.int .i64 2) rfl) (((Keep.refl _ _).own 6 _).own 7 _)⟩)
  | (exact ⟨rfl,_,HS.out.own (setTk HS.out.tk (k' := { k with seen:=low x,ph:=0 }) 6 (.int .i64 (low x)) (by rw [← Hp.out]; rfl)) ((Keep.refl _ _).own 6 _)⟩)
theorem swap_1 (x : Int) (hs : k.steps = 1) (hT : IsTk w b k) (hM : IsMem base w p c v C L) (ha : ¬ Foot p c v b) (hl : Lay k.t k.s n) (hnb : (nb : Int) = 2 * n + k.t) (hx : C[nb]? = some x) (hb : base ≤ w.heap.size) (hL : L.length < 1000000000) :
  Calls Tryz.prog 81 #[pt b,pt p] w (TickPost base w b p c v (if low x = k.seen then k else fin k k.seen (low x - 1)) C (L ++ [⟨k.who,0,nb,x,x,true⟩]) (.returned (.tuple #[]))):=by
 have HS:=zIo (Stepped.refl hT hM ha hb)
 have HX:=zIo hx
 have Hnb:=zIo hnb
 have q0 : (k.steps == 0) = false:=by simp [hs]
 have q1 : (k.steps == 1) = true:=by simp [hs]
 have hx0:=zDt x (hM.numAt hx).1
 have hx1:=hx0.2
 replace hx0:=hx0.1
 clear hM ha hx hnb hs
 obtain ⟨s0,s1,s2,s3,s4,s5,s6,s7,s8,s9,sf⟩:=id hT
 clear sf hT
 by_cases hfull : low x = k.seen
 ·have Hf:=zIo hfull
  have qf : (low x != k.seen) = false:=by simp [hfull]
  rw [if_pos hfull]
  clear hfull
  go_enter Tryz.func81,Tryz.ntmps81
  go_wp2_with fail
  refine (zDG base _ b p c _ C L k nb n x HS.out.tk HS.out.mem HS.out.apart hl Hnb.out HX.out HS.out.size hL).mono ?_
  rintro r w1 ⟨rfl,v1,hS1⟩
  replace HS:=zIo (HS.out.trans hS1)
  clear hS1
  obtain ⟨t0,t1,t2,t3,t4,t5,t6,t7,t8,t9,tf⟩:=id HS.out.tk
  clear tf
  go_wp2
  go_end0
  exact ⟨rfl,_,HS.out⟩
 ·have Hf:=zIo hfull
  have qf : (low x != k.seen) = true:=by simp [hfull]
  rw [if_neg hfull]
  clear hfull
  go_enter Tryz.func81,Tryz.ntmps81
  go_wp2_with fail
  refine (zDG base _ b p c _ C L k nb n x HS.out.tk HS.out.mem HS.out.apart hl Hnb.out HX.out HS.out.size hL).mono ?_
  rintro r w1 ⟨rfl,v1,hS1⟩
  replace HS:=zIo (HS.out.trans hS1)
  clear hS1
  obtain ⟨t0,t1,t2,t3,t4,t5,t6,t7,t8,t9,tf⟩:=id HS.out.tk
  clear tf
  go_wp2_with fail
  refine (zAd _ b k _ _ HS.out.tk).mono ?_
  rintro r w4 ⟨⟨g,rfl⟩,hT4,hK4⟩
  go_wp2
  go_end0
  exact ⟨rfl,_,HS.out.own hT4 hK4⟩
end
end
section
theorem zEZ (k : Tk) (x y : Int) : (fin k x y).seen = k.seen:=by unfold fin; split <;> rfl
section
variable (base : Nat) (w : World) (b p c : Nat) (v : Value) (C : List Int) (L : List Ev) (k : Tk) (nb : Nat) (n : Int)
theorem swap_3 (x : Int) (hs : 3 ≤ k.steps) (hT : IsTk w b k) (hM : IsMem base w p c v C L) (ha : ¬ Foot p c v b) (hl : Lay k.t k.s n) (hnb : (nb : Int) = 2 * n + k.t) (hx : C[nb]? = some x) (hb : base ≤ w.heap.size) (hL : L.length < 1000000000) :
  Calls Tryz.prog 81 #[pt b,pt p] w (TickPost base w b p c v (fin k k.seen (low x - 1)) C (L ++ [⟨k.who,0,nb,x,x,true⟩]) (.returned (.tuple #[]))):=by
 have HS:=zIo (Stepped.refl hT hM ha hb)
 have HX:=zIo hx
 have Hnb:=zIo hnb
 have q0 : (k.steps == 0) = false:=by simp; omega
 have q1 : (k.steps == 1) = false:=by simp; omega
 have q2 : (k.steps == 2) = false:=by simp; omega
 have hx0:=zDt x (hM.numAt hx).1
 have hx1:=hx0.2
 replace hx0:=hx0.1
 have EW : Hid (IntKind.i64.wrap (low x - 1) = low x - 1):=by show _ = _; rw [IntWalk.i64_in _ (by omega)]
 clear hM ha hx hnb hs
 obtain ⟨s0,s1,s2,s3,s4,s5,s6,s7,s8,s9,sf⟩:=id hT
 clear sf
 go_enter Tryz.func81,Tryz.ntmps81
 go_wp2_with fail
 refine zAD ((fun w'=>w'.cell? ⟨b,6,none⟩ = some (i64 k.seen))) ((0,true) :: (1,true) :: (2,true) :: (3,true) :: (4,true) :: (5,true) :: (6,true) :: (7,false) :: (8,true) :: (9,false) :: []) (by kernel_rfl) (by kernel_rfl) (by kernel_rfl) (by decide) (fun _ _ _ _ _ h=>h) (hT.drew.c6) ?_
 clear hT s0 s1 s2 s3 s4 s5 s6 s7 s8 s9
 replace HS:=zIo HS.out.drew
 repeat (first | (refine zAC (v := ?_) rfl ?_ ?_ ?_; rotate_left 1; rfl; (focus (intro wS hSw; skip; go_simp; first | done | with_reducible rfl)); (try simp only [Act.put,qset])) | (refine zAB rfl ?_ ?_; rfl; (try simp only [Act.put,qset])))
 refine zAH rfl (fun K hK=>?_)
 go_simp
 go_at_call 99
 refine (zDG base _ b p c _ C L k nb n x HS.out.tk HS.out.mem HS.out.apart hl Hnb.out HX.out HS.out.size hL).mono ?_
 rintro r w1 ⟨rfl,v1,hS1⟩
 (try go_wp2_with fail)
 replace HS:=zIo (HS.out.trans hS1)
 clear hS1
 refine hK.out _ _ (HS.out.tk.c6) (fun _=>?_)
 (try simp only [Act.put,qset])
 clear hK K
 repeat (first | (refine zAC (v := ?_) rfl ?_ ?_ ?_; rotate_left 1; rfl; (focus (intro wS hSw; skip; go_simp; first | done | with_reducible rfl)); (try simp only [Act.put,qset])) | (refine zAB rfl ?_ ?_; rfl; (try simp only [Act.put,qset])))
 rw [EW.out]
 refine zAH rfl (fun K hK=>?_)
 go_simp
 go_at_call 98
 refine (zAd _ b k _ _ HS.out.tk).mono ?_
 rintro r w4 ⟨⟨g,rfl⟩,hT4,hK4⟩
 (try go_wp2_with fail)
 replace HS:=zIo (HS.out.own hT4 hK4)
 clear hT4 hK4
 refine hK.out _ _ (HS.out.tk.c6.trans (by rw [zEZ])) (fun _=>?_)
 (try simp only [Act.put,qset])
 clear hK K
 refine zAJ ?_
 go_wp2
 go_end0
 exact ⟨rfl,_,HS.out⟩
theorem zIh (x : Int) (hs : k.steps = 2) (hxs : x = k.seen) (e1 : k.seen < 16777215) (hT : IsTk w b k) (hM : IsMem base w p c v C L) (ha : ¬ Foot p c v b) (hl : Lay k.t k.s n) (hnb : (nb : Int) = 2 * n + k.t) (hx : C[nb]? = some x) (hb : base ≤ w.heap.size) (hL : L.length < 1000000000) :
  Calls Tryz.prog 81 #[pt b,pt p] w (TickPost base w b p c v (fin k k.seen k.seen) (C.set nb (k.seen + 1)) (L ++ [⟨k.who,2,nb,x,k.seen + 1,true⟩]) (.returned (.tuple #[]))):=by
 have HS:=zIo (Stepped.refl hT hM ha hb)
 have HX:=zIo hx
 have Hnb:=zIo hnb
 have q0 : (k.steps == 0) = false:=by simp [hs]
 have q1 : (k.steps == 1) = false:=by simp [hs]
 have q2 : (k.steps == 2) = true:=by simp [hs]
 have e0:=(hM.numAt hx).1
 have EA : Hid (IntKind.u64.wrap k.seen = x):=by show _ = _; rw [IntKind.wrap_u64,hxs]; omega
 have EW : Hid (IntKind.u64.wrap (x + 1) = k.seen + 1):=by show _ = _; rw [IntKind.wrap_u64,hxs]; omega
 have b0 : 0 ≤ k.seen + 1:=by omega
 clear hM ha hx hnb hs hxs
 obtain ⟨s0,s1,s2,s3,s4,s5,s6,s7,s8,s9,sf⟩:=id hT
 clear sf
 go_enter Tryz.func81,Tryz.ntmps81
 go_wp2_with fail
 try rw [EA.out]
 refine zAD ((fun w'=>IsTk w' b k)) ((0,true) :: (1,true) :: (2,true) :: (3,true) :: (4,true) :: (5,true) :: (6,true) :: (7,true) :: (8,true) :: (10,true) :: (11,true) :: (12,true) :: (9,false) :: (13,false) :: []) (by kernel_rfl) (by kernel_rfl) (by kernel_rfl) (by decide) (fun _ _ _ _ _ h=>h) (hT.drew) ?_
 clear hT s0 s1 s2 s3 s4 s5 s6 s7 s8 s9
 replace HS:=zIo HS.out.drew
 repeat ((first | (refine zAC (v := ?_) rfl ?_ ?_ ?_; rotate_left 1; rfl; focus (rintro wS ⟨s0,s1,s2,s3,s4,s5,s6,s7,s8,s9,sf⟩; go_simp <;> with_reducible rfl)) | (refine zAB rfl ?_ ?_; rfl)); try simp only [Act.put,qset])
 refine zAH rfl (fun K hK=>?_)
 go_simp
 go_at_call 97
 refine (zGp _ _ _ _ n nb _ hl Hnb.out).mono ?_
 rintro r w1 ⟨rfl,hb1⟩
 (try go_wp2_with fail)
 replace HS:=zIo (HS.out.later hb1)
 clear hb1
 refine hK.out _ _ (HS.out.tk) (fun _=>?_)
 (try simp only [Act.put,qset])
 clear hK K
 repeat ((first | (refine zAC (v := ?_) rfl ?_ ?_ ?_; rotate_left 1; rfl; focus (rintro wS ⟨s0,s1,s2,s3,s4,s5,s6,s7,s8,s9,sf⟩; go_simp <;> with_reducible rfl)) | (refine zAB rfl ?_ ?_; rfl)); try simp only [Act.put,qset])
 refine zAH rfl (fun K hK=>?_)
 go_simp
 try rw [EA.out]
 try rw [EW.out]
 go_at_call 100
 refine (zEf base _ p c _ _ _ k.who nb x (k.seen + 1) HS.out.mem HX.out HS.out.size hL (by omega) (by omega)).mono ?_
 rintro r w2 ⟨rfl,v2,hT2⟩
 (try go_wp2_with fail)
 replace HS:=zIo (HS.out.cells hT2)
 clear hT2
 refine hK.out _ _ (HS.out.tk) (fun _=>?_)
 (try simp only [Act.put,qset])
 clear hK K
 repeat ((first | (refine zAC (v := ?_) rfl ?_ ?_ ?_; rotate_left 1; rfl; focus (rintro wS ⟨s0,s1,s2,s3,s4,s5,s6,s7,s8,s9,sf⟩; go_simp <;> with_reducible rfl)) | (refine zAB rfl ?_ ?_; rfl)); try simp only [Act.put,qset])
 refine zAJ ?_
 go_wp2_with fail
 refine zAD ((fun w'=>w'.cell? ⟨b,6,none⟩ = some (i64 k.seen))) ((0,true) :: (1,true) :: (2,true) :: (3,true) :: (4,true) :: (5,true) :: (6,true) :: (7,true) :: (8,true) :: (9,false) :: []) (by kernel_rfl) (by kernel_rfl) (by kernel_rfl) (by decide) (fun _ _ _ _ _ h=>h) (HS.out.tk.drew.c6) ?_
 replace HS:=zIo HS.out.drew
 repeat (first | (refine zAC (v := ?_) rfl ?_ ?_ ?_; rotate_left 1; rfl; (focus (intro wS hSw; skip; go_simp; first | done | with_reducible rfl)); (try simp only [Act.put,qset])) | (refine zAB rfl ?_ ?_; rfl; (try simp only [Act.put,qset])))
 refine zAH rfl (fun K hK=>?_)
 go_simp
 go_at_call 98
 refine (zAd _ b k _ _ HS.out.tk).mono ?_
 rintro r w4 ⟨⟨g,rfl⟩,hT4,hK4⟩
 (try go_wp2_with fail)
 replace HS:=zIo (HS.out.own hT4 hK4)
 clear hT4 hK4
 refine hK.out _ _ (HS.out.tk.c6.trans (by rw [zEZ])) (fun _=>?_)
 (try simp only [Act.put,qset])
 clear hK K
 refine zAJ ?_
 go_wp2
 go_end0
 exact ⟨rfl,_,HS.out⟩
theorem zIX (x : Int) (hs : k.steps = 2) (hxs : x ≠ k.seen) (e0 : 0 ≤ k.seen) (e1 : k.seen < 16777215) (hT : IsTk w b k) (hM : IsMem base w p c v C L) (ha : ¬ Foot p c v b) (hl : Lay k.t k.s n) (hnb : (nb : Int) = 2 * n + k.t) (hx : C[nb]? = some x) (hb : base ≤ w.heap.size) (hL : L.length < 1000000000) :
  Calls Tryz.prog 81 #[pt b,pt p] w (TickPost base w b p c v k C (L ++ [⟨k.who,2,nb,x,x,false⟩]) (.returned (.tuple #[]))):=by
 have HS:=zIo (Stepped.refl hT hM ha hb)
 have HX:=zIo hx
 have Hnb:=zIo hnb
 have q0 : (k.steps == 0) = false:=by simp [hs]
 have q1 : (k.steps == 1) = false:=by simp [hs]
 have q2 : (k.steps == 2) = true:=by simp [hs]
 have EA : Hid (IntKind.u64.wrap k.seen = k.seen):=by show _ = _; rw [IntKind.wrap_u64]; omega
 have HN:=zIo hxs
 clear hM ha hx hnb hs hxs
 obtain ⟨s0,s1,s2,s3,s4,s5,s6,s7,s8,s9,sf⟩:=id hT
 clear sf
 go_enter Tryz.func81,Tryz.ntmps81
 go_wp2_with fail
 try rw [EA.out]
 refine zAD ((fun w'=>IsTk w' b k)) ((0,true) :: (1,true) :: (2,true) :: (3,true) :: (4,true) :: (5,true) :: (6,true) :: (7,true) :: (8,true) :: (10,true) :: (11,true) :: (12,true) :: (9,false) :: (13,false) :: []) (by kernel_rfl) (by kernel_rfl) (by kernel_rfl) (by decide) (fun _ _ _ _ _ h=>h) (hT.drew) ?_
 clear hT s0 s1 s2 s3 s4 s5 s6 s7 s8 s9
 replace HS:=zIo HS.out.drew
 repeat ((first | (refine zAC (v := ?_) rfl ?_ ?_ ?_; rotate_left 1; rfl; focus (rintro wS ⟨s0,s1,s2,s3,s4,s5,s6,s7,s8,s9,sf⟩; go_simp <;> with_reducible rfl)) | (refine zAB rfl ?_ ?_; rfl)); try simp only [Act.put,qset])
 refine zAH rfl (fun K hK=>?_)
 go_simp
 go_at_call 97
 refine (zGp _ _ _ _ n nb _ hl Hnb.out).mono ?_
 rintro r w1 ⟨rfl,hb1⟩
 (try go_wp2_with fail)
 replace HS:=zIo (HS.out.later hb1)
 clear hb1
 refine hK.out _ _ (HS.out.tk) (fun _=>?_)
 (try simp only [Act.put,qset])
 clear hK K
 repeat ((first | (refine zAC (v := ?_) rfl ?_ ?_ ?_; rotate_left 1; rfl; focus (rintro wS ⟨s0,s1,s2,s3,s4,s5,s6,s7,s8,s9,sf⟩; go_simp <;> with_reducible rfl)) | (refine zAB rfl ?_ ?_; rfl)); try simp only [Act.put,qset])
 refine zAH rfl (fun K hK=>?_)
 go_simp
 try rw [EA.out]
 go_at_call 100
 refine (zGI base _ p c _ _ _ k.who nb x k.seen _ HS.out.mem HX.out HS.out.size hL HN.out).mono ?_
 rintro r w2 ⟨rfl,v2,hT2⟩
 (try go_wp2_with fail)
 replace HS:=zIo (HS.out.cells hT2)
 clear hT2
 refine hK.out _ _ (HS.out.tk) (fun _=>?_)
 (try simp only [Act.put,qset])
 clear hK K
 repeat ((first | (refine zAC (v := ?_) rfl ?_ ?_ ?_; rotate_left 1; rfl; focus (rintro wS ⟨s0,s1,s2,s3,s4,s5,s6,s7,s8,s9,sf⟩; go_simp <;> with_reducible rfl)) | (refine zAB rfl ?_ ?_; rfl)); try simp only [Act.put,qset])
 refine zAJ ?_
 go_wp2
 go_end0
 exact ⟨rfl,_,HS.out⟩
theorem zId (u : Int) (hso : k.so = 4) (hst : k.steps ≤ k.d) (hT : IsTk w b k) :
  Calls Tryz.prog 82 #[pt b,i64 u] w fun r w'=>r = .returned (.tuple #[]) ∧ IsTk w' b { k with seen:=if k.steps = 0 then u else k.seen } ∧ Keep (· = b) w w':=by
 have q4 : (k.so == 4) = true:=by simp [hso]
 have q3 : (k.so == 3) = false:=by simp [hso]
 clear hso
 obtain ⟨s0,s1,s2,s3,s4,s5,s6,s7,s8,s9,sf⟩:=id hT
 have f6:=sf 6
 clear sf
 have HT:=zIo hT
 clear hT
 have h2 : ((k.steps == 0) = true ∧ k.steps = 0) ∨ ((k.steps == 0) = false ∧ ¬ k.steps = 0):=by
  by_cases h : k.steps = 0
  ·exact .inl ⟨by simp [h],h⟩
  ·exact .inr ⟨by simp [h],h⟩
 rcases h2 with ⟨q0,h0⟩ | ⟨q0,h0⟩
 ·rw [if_pos h0]
  clear h0
  go_enter Tryz.func82,Tryz.ntmps82
  go_wp2_with fail
  have hT1:=setTk HT.out (k' := { k with seen:=u }) 6 (.int .i64 u) rfl
  have HT1:=zIo hT1
  have HK1 : Hid (Keep (· = b) w (w.setCell ⟨b,6,none⟩ (.int .i64 u))):=(Keep.refl _ _).own 6 _
  clear s0 s1 s2 s3 s4 s5 s6 s7 s8 s9 f6
  obtain ⟨s0,s1,s2,s3,s4,s5,s6,s7,s8,s9,sf⟩:=id hT1
  clear sf hT1
  refine zAD ((fun w'=>IsTk w' b { k with seen:=u })) ((0,true) :: (1,true) :: (2,true) :: (3,true) :: (4,true) :: (5,true) :: (6,true) :: (7,true) :: (8,true) :: (9,true) :: []) (by kernel_rfl) (by kernel_rfl) (by kernel_rfl) (by decide) (fun _ _ _ _ _ h=>h) (HT1.out.drew) ?_
  repeat ((first | (refine zAC (v := ?_) rfl ?_ ?_ ?_; rotate_left 1; rfl; focus (rintro wS ⟨s0,s1,s2,s3,s4,s5,s6,s7,s8,s9,sf⟩; go_simp <;> with_reducible rfl)) | (refine zAB rfl ?_ ?_; rfl)); try simp only [Act.put,qset])
  refine zAJ ?_
  go_wp2
  go_end0
  exact ⟨rfl,HT1.out.drew,HK1.out.drew⟩
 ·rw [if_neg h0]
  clear h0
  go_enter Tryz.func82,Tryz.ntmps82
  go_wp2_with fail
  refine zAD ((fun w'=>IsTk w' b k)) ((0,true) :: (1,true) :: (2,true) :: (3,true) :: (4,true) :: (5,true) :: (6,true) :: (7,true) :: (8,true) :: (9,true) :: []) (by kernel_rfl) (by kernel_rfl) (by kernel_rfl) (by decide) (fun _ _ _ _ _ h=>h) (HT.out.drew) ?_
  repeat ((first | (refine zAC (v := ?_) rfl ?_ ?_ ?_; rotate_left 1; rfl; focus (rintro wS ⟨s0,s1,s2,s3,s4,s5,s6,s7,s8,s9,sf⟩; go_simp <;> with_reducible rfl)) | (refine zAB rfl ?_ ?_; rfl)); try simp only [Act.put,qset])
  refine zAJ ?_
  go_wp2
  go_end0
  exact ⟨rfl,HT.out.drew,(Keep.refl _ _).drew⟩
theorem zHL (u : Int) (hso : k.so = 3 ∨ (k.so = 4 ∧ k.d < k.steps)) (hT : IsTk w b k) :
  Calls Tryz.prog 82 #[pt b,i64 u] w fun r w'=>r = .returned (.tuple #[]) ∧ IsTk w' b (fin { k with seen:=if k.steps = 0 then u else k.seen } (if k.steps = 0 then u else k.seen) u) ∧ Keep (· = b) w w':=by
 obtain ⟨s0,s1,s2,s3,s4,s5,s6,s7,s8,s9,sf⟩:=id hT
 have f6:=sf 6
 clear sf
 have HT:=zIo hT
 clear hT
 have h2 : ((k.steps == 0) = true ∧ k.steps = 0) ∨ ((k.steps == 0) = false ∧ ¬ k.steps = 0):=by
  by_cases h : k.steps = 0
  ·exact .inl ⟨by simp [h],h⟩
  ·exact .inr ⟨by simp [h],h⟩
 have h3 : ((k.so == 4) = false ∧ (k.so == 3) = true ∧ k.so = 3) ∨ ((k.so == 4) = true ∧ (k.so == 3) = false ∧ ¬ (k.steps ≤ k.d)):=by
  rcases hso with h | ⟨h,h'⟩
  ·exact .inl ⟨by simp [h],by simp [h],h⟩
  ·exact .inr ⟨by simp [h],by simp [h],by omega⟩
 clear hso
 rcases h3 with ⟨q4,q3,h4⟩ | ⟨q4,q3,hst⟩
 ·clear h4
  rcases h2 with ⟨q0,h0⟩ | ⟨q0,h0⟩
  ·rw [if_pos h0]
   clear h0
   go_enter Tryz.func82,Tryz.ntmps82
   go_wp2_with fail
   have HT1:=zIo (setTk HT.out (k' := { k with seen:=u }) 6 (.int .i64 u) rfl)
   have HK1 : Hid (Keep (· = b) w (w.setCell ⟨b,6,none⟩ (.int .i64 u))):=(Keep.refl _ _).own 6 _
   refine (zAd _ b _ _ _ HT1.out).mono ?_
   rintro r w4 ⟨⟨g,rfl⟩,hT4,hK4⟩
   go_wp2
   go_end0
   exact ⟨rfl,hT4,HK1.out.trans hK4⟩
  ·rw [if_neg h0]
   clear h0
   go_enter Tryz.func82,Tryz.ntmps82
   go_wp2_with fail
   refine (zAd _ b _ _ _ HT.out).mono ?_
   rintro r w4 ⟨⟨g,rfl⟩,hT4,hK4⟩
   go_wp2
   go_end0
   exact ⟨rfl,hT4,hK4⟩
 ·rcases h2 with ⟨q0,h0⟩ | ⟨q0,h0⟩
  ·rw [if_pos h0]
   clear h0
   go_enter Tryz.func82,Tryz.ntmps82
   go_wp2_with fail
   have hT1:=setTk HT.out (k' := { k with seen:=u }) 6 (.int .i64 u) rfl
   have HT1:=zIo hT1
   have HK1 : Hid (Keep (· = b) w (w.setCell ⟨b,6,none⟩ (.int .i64 u))):=(Keep.refl _ _).own 6 _
   clear s0 s1 s2 s3 s4 s5 s6 s7 s8 s9 f6
   obtain ⟨s0,s1,s2,s3,s4,s5,s6,s7,s8,s9,sf⟩:=id hT1
   clear sf hT1
   refine zAD ((fun w'=>IsTk w' b { k with seen:=u })) ((0,true) :: (1,true) :: (2,true) :: (3,true) :: (4,true) :: (5,true) :: (6,true) :: (7,true) :: (8,true) :: (9,true) :: []) (by kernel_rfl) (by kernel_rfl) (by kernel_rfl) (by decide) (fun _ _ _ _ _ h=>h) (HT1.out.drew) ?_
   clear s0 s1 s2 s3 s4 s5 s6 s7 s8 s9
   repeat ((first | (refine zAC (v := ?_) rfl ?_ ?_ ?_; rotate_left 1; rfl; focus (rintro wS ⟨s0,s1,s2,s3,s4,s5,s6,s7,s8,s9,sf⟩; go_simp <;> with_reducible rfl)) | (refine zAB rfl ?_ ?_; rfl)); try simp only [Act.put,qset])
   refine zAJ ?_
   obtain ⟨s0,s1,s2,s3,s4,s5,s6,s7,s8,s9,sf⟩:=id HT1.out.drew
   clear sf
   go_wp2_with fail
   refine (zAd _ b _ _ _ HT1.out.drew).mono ?_
   rintro r w4 ⟨⟨g,rfl⟩,hT4,hK4⟩
   go_wp2
   go_end0
   exact ⟨rfl,hT4,HK1.out.drew.trans hK4⟩
  ·rw [if_neg h0]
   clear h0
   go_enter Tryz.func82,Tryz.ntmps82
   go_wp2_with fail
   refine zAD ((fun w'=>IsTk w' b k)) ((0,true) :: (1,true) :: (2,true) :: (3,true) :: (4,true) :: (5,true) :: (6,true) :: (7,true) :: (8,true) :: (9,true) :: []) (by kernel_rfl) (by kernel_rfl) (by kernel_rfl) (by decide) (fun _ _ _ _ _ h=>h) (HT.out.drew) ?_
   clear s0 s1 s2 s3 s4 s5 s6 s7 s8 s9
   repeat ((first | (refine zAC (v := ?_) rfl ?_ ?_ ?_; rotate_left 1; rfl; focus (rintro wS ⟨s0,s1,s2,s3,s4,s5,s6,s7,s8,s9,sf⟩; go_simp <;> with_reducible rfl)) | (refine zAB rfl ?_ ?_; rfl)); try simp only [Act.put,qset])
   refine zAJ ?_
   obtain ⟨s0,s1,s2,s3,s4,s5,s6,s7,s8,s9,sf⟩:=id HT.out.drew
   clear sf
   go_wp2_with fail
   refine (zAd _ b _ _ _ HT.out.drew).mono ?_
   rintro r w4 ⟨⟨g,rfl⟩,hT4,hK4⟩
   go_wp2
   go_end0
   exact ⟨rfl,hT4,(Keep.refl _ _).drew.trans hK4⟩
end
end
section
theorem zBM (k : Tk) (x y : Int) : (fin k x y).steps = k.steps:=by unfold fin; split <;> rfl
section
variable (base : Nat) (w : World) (b p c : Nat) (v : Value) (C : List Int) (L : List Ev) (k : Tk) (nb : Nat) (n : Int)
theorem zIl (now : Int) (k1 : Tk) (C1 : List Int) (L1 : List Ev) (hk : k1.steps = k.steps) (hs0 : 0 ≤ k.steps) (hs1 : k.steps ≤ 1000000) (hp : k.ph = 0) (hso : k.so = 0) (hT : IsTk w b k)
  (hin : Calls Tryz.prog 79 #[pt b,pt p] w (TickPost base w b p c v k1 C1 L1 (.returned (.tuple #[])))) :
  Calls Tryz.prog 63 #[pt b,pt p,i64 now] w (TickPost base w b p c v { k1 with steps:=k.steps + 1 } C1 L1 (.returned (i64 k1.ph))):=by
 have qp : (k.ph != 0) = false:=by simp [hp]
 have q0 : (k.so == 0) = true:=by simp [hso]
 have q1 : (k.so == 1) = false:=by simp [hso]
 have q2 : (k.so == 2) = false:=by simp [hso]
 have q3 : (k.so == 3) = false:=by simp [hso]
 have q4 : (k.so == 4) = false:=by simp [hso]
 have HIN:=zIo hin
 have Hk:=zIo hk
 clear hin hk hso hp
 obtain ⟨s0,s1,s2,s3,s4,s5,s6,s7,s8,s9,sf⟩:=id hT
 clear sf hT
 go_enter Tryz.func63,Tryz.ntmps63
 go_wp2_with fail
 refine HIN.out.mono ?_
 rintro r w1 ⟨rfl,v1,hS⟩
 have HS:=zIo hS
 obtain ⟨t0,t1,t2,t3,t4,t5,t6,t7,t8,t9,tf⟩:=id hS.tk
 rw [Hk.out] at t5
 have f5:=tf 5
 clear tf hS s0 s1 s2 s3 s4 s5 s6 s7 s8 s9
 go_wp2
 go_ret
 exact ⟨rfl,_,HS.out.own (setTk HS.out.tk (k' := { k1 with steps:=k.steps + 1 }) 5 (.int .i64 (k.steps + 1)) rfl) ((Keep.refl _ _).own 5 _)⟩
theorem zEL (now : Int) (k1 : Tk) (C1 : List Int) (L1 : List Ev) (hk : k1.steps = k.steps) (hs0 : 0 ≤ k.steps) (hs1 : k.steps ≤ 1000000) (hp : k.ph = 0) (hso : k.so = 1) (hT : IsTk w b k)
  (hin : Calls Tryz.prog 80 #[pt b,pt p] w (TickPost base w b p c v k1 C1 L1 (.returned (.tuple #[])))) :
  Calls Tryz.prog 63 #[pt b,pt p,i64 now] w (TickPost base w b p c v { k1 with steps:=k.steps + 1 } C1 L1 (.returned (i64 k1.ph))):=by
 have qp : (k.ph != 0) = false:=by simp [hp]
 have q0 : (k.so == 0) = false:=by simp [hso]
 have q1 : (k.so == 1) = true:=by simp [hso]
 have q2 : (k.so == 2) = false:=by simp [hso]
 have q3 : (k.so == 3) = false:=by simp [hso]
 have q4 : (k.so == 4) = false:=by simp [hso]
 have HIN:=zIo hin
 have Hk:=zIo hk
 clear hin hk hso hp
 obtain ⟨s0,s1,s2,s3,s4,s5,s6,s7,s8,s9,sf⟩:=id hT
 clear sf hT
 go_enter Tryz.func63,Tryz.ntmps63
 go_wp2_with fail
 refine HIN.out.mono ?_
 rintro r w1 ⟨rfl,v1,hS⟩
 have HS:=zIo hS
 obtain ⟨t0,t1,t2,t3,t4,t5,t6,t7,t8,t9,tf⟩:=id hS.tk
 rw [Hk.out] at t5
 have f5:=tf 5
 clear tf hS s0 s1 s2 s3 s4 s5 s6 s7 s8 s9
 go_wp2
 go_ret
 exact ⟨rfl,_,HS.out.own (setTk HS.out.tk (k' := { k1 with steps:=k.steps + 1 }) 5 (.int .i64 (k.steps + 1)) rfl) ((Keep.refl _ _).own 5 _)⟩
theorem zCQ (now : Int) (k1 : Tk) (C1 : List Int) (L1 : List Ev) (hk : k1.steps = k.steps) (hs0 : 0 ≤ k.steps) (hs1 : k.steps ≤ 1000000) (hp : k.ph = 0) (hso : k.so = 2) (hT : IsTk w b k)
  (hin : Calls Tryz.prog 81 #[pt b,pt p] w (TickPost base w b p c v k1 C1 L1 (.returned (.tuple #[])))) :
  Calls Tryz.prog 63 #[pt b,pt p,i64 now] w (TickPost base w b p c v { k1 with steps:=k.steps + 1 } C1 L1 (.returned (i64 k1.ph))):=by
 have qp : (k.ph != 0) = false:=by simp [hp]
 have q0 : (k.so == 0) = false:=by simp [hso]
 have q1 : (k.so == 1) = false:=by simp [hso]
 have q2 : (k.so == 2) = true:=by simp [hso]
 have q3 : (k.so == 3) = false:=by simp [hso]
 have q4 : (k.so == 4) = false:=by simp [hso]
 have HIN:=zIo hin
 have Hk:=zIo hk
 clear hin hk hso hp
 obtain ⟨s0,s1,s2,s3,s4,s5,s6,s7,s8,s9,sf⟩:=id hT
 clear sf hT
 go_enter Tryz.func63,Tryz.ntmps63
 go_wp2_with fail
 refine HIN.out.mono ?_
 rintro r w1 ⟨rfl,v1,hS⟩
 have HS:=zIo hS
 obtain ⟨t0,t1,t2,t3,t4,t5,t6,t7,t8,t9,tf⟩:=id hS.tk
 rw [Hk.out] at t5
 have f5:=tf 5
 clear tf hS s0 s1 s2 s3 s4 s5 s6 s7 s8 s9
 go_wp2
 go_ret
 exact ⟨rfl,_,HS.out.own (setTk HS.out.tk (k' := { k1 with steps:=k.steps + 1 }) 5 (.int .i64 (k.steps + 1)) rfl) ((Keep.refl _ _).own 5 _)⟩
theorem zG3 (now : Int) (hp : k.ph ≠ 0) (hT : IsTk w b k) (hM : IsMem base w p c v C L) (ha : ¬ Foot p c v b) (hb : base ≤ w.heap.size) :
  Calls Tryz.prog 63 #[pt b,pt p,i64 now] w (TickPost base w b p c v k C L (.returned (i64 k.ph))):=by
 have qp : (k.ph != 0) = true:=by simp [hp]
 have HS:=zIo (Stepped.refl hT hM ha hb)
 clear hp hM ha
 obtain ⟨s0,s1,s2,s3,s4,s5,s6,s7,s8,s9,sf⟩:=id hT
 clear sf hT
 go_enter Tryz.func63,Tryz.ntmps63
 go_wp2
 go_ret
 exact ⟨rfl,_,HS.out⟩
theorem zDb (now : Int) (k1 : Tk) (hk : k1.steps = k.steps) (hs0 : 0 ≤ k.steps) (hs1 : k.steps ≤ 1000000) (hp : k.ph = 0) (hso : k.so = 3 ∨ k.so = 4) (hT : IsTk w b k) (hM : IsMem base w p c v C L) (ha : ¬ Foot p c v b) (hb : base ≤ w.heap.size)
  (hin : Calls Tryz.prog 82 #[pt b,i64 (low now)] w fun r w'=>r = .returned (.tuple #[]) ∧ IsTk w' b k1 ∧ Keep (· = b) w w') :
  Calls Tryz.prog 63 #[pt b,pt p,i64 now] w (TickPost base w b p c v { k1 with steps:=k.steps + 1 } C L (.returned (i64 k1.ph))):=by
 have qp : (k.ph != 0) = false:=by simp [hp]
 have HS:=zIo (Stepped.refl hT hM ha hb)
 have HIN:=zIo hin
 have Hk:=zIo hk
 have q0 : (k.so == 0) = false:=by simp; omega
 have q1 : (k.so == 1) = false:=by simp; omega
 have q2 : (k.so == 2) = false:=by simp; omega
 have h3 : ((k.so == 4) = false ∧ (k.so == 3) = true) ∨ ((k.so == 4) = true ∧ (k.so == 3) = false):=by
  rcases hso with h | h
  ·exact .inl ⟨by simp [h],by simp [h]⟩
  ·exact .inr ⟨by simp [h],by simp [h]⟩
 clear hin hk hso hp hM ha
 obtain ⟨s0,s1,s2,s3,s4,s5,s6,s7,s8,s9,sf⟩:=id hT
 clear sf hT
 have hlow : (now ≤ 16777215 ∧ low now = now) ∨ (16777215 < now ∧ low now = 16777215):=by unfold low; omega
 rcases h3 with ⟨q4,q3⟩ | ⟨q4,q3⟩
 all_goals
  rcases hlow with ⟨hn,hl⟩ | ⟨hn,hl⟩
  all_goals
   rw [hl] at HIN
   clear hl
   go_enter Tryz.func63,Tryz.ntmps63
   go_wp2_with fail
   refine HIN.out.mono ?_
   rintro r w1 ⟨rfl,hT1,hK1⟩
   have HS1:=zIo (HS.out.own hT1 hK1)
   obtain ⟨t0,t1,t2,t3,t4,t5,t6,t7,t8,t9,tf⟩:=id hT1
   rw [Hk.out] at t5
   have f5:=tf 5
   clear tf hT1 hK1 s0 s1 s2 s3 s4 s5 s6 s7 s8 s9
   go_wp2
   go_ret
   exact ⟨rfl,_,HS1.out.own (setTk HS1.out.tk (k' := { k1 with steps:=k.steps + 1 }) 5 (.int .i64 (k.steps + 1)) rfl) ((Keep.refl _ _).own 5 _)⟩
theorem zBf (hT : IsTk w b k) : Calls Tryz.prog 69 #[pt b] w fun r w'=>r = .returned (st k.lo k.hi) ∧ Below w.heap.size w w':=by
 have hlt:=hT.lt
 obtain ⟨s0,s1,s2,s3,s4,s5,s6,s7,s8,s9,sf⟩:=hT
 clear sf
 go_enter Tryz.func69,Tryz.ntmps69
 go_wp2
 exact bodyPost_ret (v:=st k.lo k.hi) (by simp [results,Tryz.results69,go_sem]) rfl ⟨rfl,zAA (Below.refl _ _) _⟩
def tk0 (t s so d who : Int) : Tk:=⟨t,s,so,d,who,0,0,0,0,0⟩
theorem zG9 (t s so d who : Int) : Calls Tryz.prog 48 #[cf t s so d,i64 who] w fun r w' => ∃ b,r = .returned (pt b) ∧ IsTk w' b (tk0 t s so d who) ∧ Below w.heap.size w w' ∧ w.heap.size ≤ b:=by
 go_enter Tryz.func48,Tryz.ntmps48
 go_wp2
 go_ret
 refine ⟨w.heap.size + 1,rfl, ?_,zAA (zAA (Below.refl _ _) _) _,by omega⟩
 have h:=fun i=>World.cell?_alloc_new (w.alloc (.cells #[.int .i64 t,.int .i64 s,.int .i64 so,.int .i64 d] 26)) #[.int .i64 t,.int .i64 s,.int .i64 so,.int .i64 d,i64 who,.int .i64 0,.int .i64 0,.int .i64 0,.int .i64 0,.int .i64 0] 144 i
 rw [show (w.alloc (.cells #[.int .i64 t,.int .i64 s,.int .i64 so,.int .i64 d] 26)).heap.size = w.heap.size + 1 by simp] at h
 exact ⟨h 0,h 1,h 2,h 3,h 4,h 5,h 6,h 7,h 8,h 9,fun o=>World.frozen?_alloc_at _ _ _ _ (by simp)⟩
def most (t so d : Int) : Int:=if so = 0 then 1 else if so = 1 then t + 1 else if so = 2 then 4 else if so = 3 then 1 else d + 2
theorem zBc {C : List Int} {i : Nat} (h : i < C.length) : C[i]? = some (C.getD i 0):=by
 rw [List.getD_eq_getElem?_getD,List.getElem?_eq_getElem h]
 rfl
theorem zBg (k : Tk) (m x y : Int) : { fin k x y with steps:=m } = fin { k with steps:=m } x y:=by unfold fin; split <;> rfl
theorem zDg (k : Tk) (m x y : Int) : (fin k x y).ph = (fin { k with steps:=m } x y).ph:=by unfold fin; split <;> rfl
theorem zAb {F : FuncId} {args : Array Value} {k1 k2 : Tk} {C1 C2 : List Int} {L1 L2 : List Ev} {q : Int} (h : Calls Tryz.prog F args w (TickPost base w b p c v k1 C1 L1 (.returned (i64 q)))) (hk : k1 = k2) (hq : q = k2.ph) (hC : C1 = C2) (hL : L1 = L2) :
  Calls Tryz.prog F args w (TickPost base w b p c v k2 C2 L2 (.returned (i64 k2.ph))):=by
 subst hk hq hC hL
 exact h
theorem zHH (now : Int) (hk : k.Ok nb n C) (n0 : 0 ≤ now) (hT : IsTk w b k) (hM : IsMem base w p c v C L) (ha : ¬ Foot p c v b) (hb : base ≤ w.heap.size) (hL : L.length < 1000000000) :
  Calls Tryz.prog 63 #[pt b,pt p,i64 now] w (TickPost base w b p c v (stp nb k C now).1 (stp nb k C now).2.1 (L ++ (stp nb k C now).2.2.toList) (.returned (i64 (stp nb k C now).1.ph))):=by
 obtain ⟨hl,hnt,hlen,w0,w1,s0,s1,e0,e1,o0,o1,d0,d1,p0,p1,h2⟩:=hk
 have ht1:=hl.t1
 have hx0 : C[nb]? = some (C.getD nb 0):=zBc (by omega)
 unfold stp
 by_cases hp : k.ph = 0
 ·rw [if_pos hp]
  rcases (by omega : k.so = 0 ∨ k.so = 1 ∨ k.so = 2 ∨ (k.so = 3 ∨ k.so = 4)) with h | h | h | h
  ·rw [if_pos h]
   exact zAb base w b p c v (zIl base w b p c v k now _ _ _ (zBM _ _ _) s0 s1 hp h hT (zFZ base w b p c v C L k nb n _ hT hM ha hl hnt hx0 hb hL)) (zBg _ _ _ _) (zDg _ _ _ _) rfl rfl
  ·rw [if_neg (by omega),if_pos h]
   by_cases hlt : k.steps < k.t
   ·rw [if_pos hlt]
    have hj : k.steps = (k.steps.toNat : Int):=by omega
    exact zAb base w b p c v (zEL base w b p c v k now _ _ _ (by exact rfl) s0 s1 hp h hT (zDZ base w b p c v C L k nb n _ _ hj hlt hT hM ha hl hnt (zBc (by omega)) hb hL)) rfl rfl rfl rfl
   ·rw [if_neg hlt]
    by_cases hf : k.seen + 1 < 16777215
    ·rw [if_pos hf]
     have hj : k.who = (k.who.toNat : Int):=by omega
     exact zAb base w b p c v (zEL base w b p c v k now _ _ _ (by exact rfl) s0 s1 hp h hT (zDc base w b p c v C L k nb n _ _ hj w1 (by omega) e0 hf hT hM ha hl hnt (zBc (by omega)) hb hL)) rfl rfl rfl rfl
    ·rw [if_neg hf]
     exact zAb base w b p c v (zEL base w b p c v k now _ _ _ (by exact rfl) s0 s1 hp h hT (zDy base w b p c v C L k (by omega) e0 e1 (by omega) hT hM ha hb)) rfl rfl rfl (List.append_nil _).symm
  ·rw [if_neg (by omega),if_neg (by omega),if_pos h]
   by_cases h0 : k.steps = 0
   ·rw [if_pos h0]
    exact zAb base w b p c v (zCQ base w b p c v k now _ _ _ (by exact rfl) s0 s1 hp h hT (swap_0 base w b p c v C L k nb n _ h0 hT hM ha hl hnt hx0 hb hL hp)) rfl rfl rfl rfl
   ·rw [if_neg h0]
    by_cases h1 : k.steps = 1
    ·rw [if_pos h1]
     refine zAb base w b p c v (zCQ base w b p c v k now _ _ _ ?_ s0 s1 hp h hT (swap_1 base w b p c v C L k nb n _ h1 hT hM ha hl hnt hx0 hb hL)) ?_ ?_ rfl rfl
     ·split
      ·rfl
      ·exact zBM _ _ _
     ·show _ = if low (C.getD nb 0) = k.seen then _ else _
      split
      ·rfl
      ·exact zBg _ _ _ _
     ·show _ = Tk.ph (if low (C.getD nb 0) = k.seen then _ else _)
      split
      ·rfl
      ·exact zDg _ _ _ _
    ·rw [if_neg h1]
     by_cases h3 : k.steps = 2
     ·rw [if_pos h3]
      have hs:=h2 h (by omega) hp
      by_cases hx : C.getD nb 0 = k.seen
      ·rw [if_pos hx]
       exact zAb base w b p c v (zCQ base w b p c v k now _ _ _ (zBM _ _ _) s0 s1 hp h hT (zIh base w b p c v C L k nb n _ h3 hx hs hT hM ha hl hnt hx0 hb hL)) (zBg _ _ _ _) (zDg _ _ _ _) rfl rfl
      ·rw [if_neg hx]
       exact zAb base w b p c v (zCQ base w b p c v k now _ _ _ (by exact rfl) s0 s1 hp h hT (zIX base w b p c v C L k nb n _ h3 hx e0 hs hT hM ha hl hnt hx0 hb hL)) rfl rfl rfl rfl
     ·rw [if_neg h3]
      exact zAb base w b p c v (zCQ base w b p c v k now _ _ _ (zBM _ _ _) s0 s1 hp h hT (swap_3 base w b p c v C L k nb n _ (by omega) hT hM ha hl hnt hx0 hb hL)) (zBg _ _ _ _) (zDg _ _ _ _) rfl rfl
  ·rw [if_neg (by omega),if_neg (by omega),if_neg (by omega)]
   by_cases hf : k.so = 3 ∨ k.d < k.steps
   ·rw [if_pos hf]
    exact zAb base w b p c v (zDb base w b p c v C L k now _ (by exact zBM _ _ _) s0 s1 hp h hT hM ha hb (zHL w b k (low now) (by omega) hT)) (zBg _ _ _ _) (zDg _ _ _ _) rfl (List.append_nil _).symm
   ·rw [if_neg hf]
    exact zAb base w b p c v (zDb base w b p c v C L k now _ (by exact rfl) s0 s1 hp h hT hM ha hb (zId w b k (low now) (by omega) (by omega) hT)) rfl rfl rfl (List.append_nil _).symm
 ·rw [if_neg hp]
  exact zAb base w b p c v (zG3 base w b p c v C L k now hp hT hM ha hb) rfl rfl rfl (List.append_nil _).symm
end
end
section
theorem src5 (a : Int) : 0 ≤ wrap64 ((IntKind.u64.wrap a).tmod 5) ∧ wrap64 ((IntKind.u64.wrap a).tmod 5) ≤ 4:=by
 have h0 : 0 ≤ IntKind.u64.wrap a:=by rw [IntKind.wrap_u64]; omega
 rw [Int.tmod_eq_emod_of_nonneg h0]
 unfold wrap64
 omega
structure AtC (w : World) (b : Nat) (t s so d : Int) : Prop where
 c0 : w.cell? ⟨b,0,none⟩ = some (i64 t)
 c1 : w.cell? ⟨b,1,none⟩ = some (i64 s)
 c2 : w.cell? ⟨b,2,none⟩ = some (i64 so)
 c3 : w.cell? ⟨b,3,none⟩ = some (i64 d)
theorem AtC.later {w w' : World} {b n : Nat} {t s so d : Int} (h : AtC w b t s so d) (k : Below n w w') (hn : b < n) : AtC w' b t s so d :=
 ⟨(k.cell (p:=⟨b,0,none⟩) hn).trans h.c0,(k.cell (p:=⟨b,1,none⟩) hn).trans h.c1,(k.cell (p:=⟨b,2,none⟩) hn).trans h.c2,(k.cell (p:=⟨b,3,none⟩) hn).trans h.c3⟩
theorem AtC.made (w : World) (t s so d : Int) : AtC (w.alloc (.cells #[.int .i64 t,.int .i64 s,.int .i64 so,.int .i64 d] 26)) w.heap.size t s so d :=
 ⟨World.cell?_alloc_new w _ _ 0,World.cell?_alloc_new w _ _ 1,World.cell?_alloc_new w _ _ 2,World.cell?_alloc_new w _ _ 3⟩
theorem zAs (C : List Int) (i j : Nat) (x : Int) : (C.set i x).getD j 0 = if i = j ∧ j < C.length then x else C.getD j 0:=by
 rw [List.getD_eq_getElem?_getD,List.getElem?_set,List.getD_eq_getElem?_getD]
 by_cases h : i = j
 ·subst h
  by_cases h2 : i < C.length
  ·simp [h2]
  ·simp [h2]
 ·simp [h]
end
section
structure AtHead (w : World) (b : Nat) (t s so d who x : Int) : Prop where
 c0 : w.cell? ⟨b,0,none⟩ = some (i64 t)
 c1 : w.cell? ⟨b,1,none⟩ = some (i64 s)
 c2 : w.cell? ⟨b,2,none⟩ = some (i64 so)
 c3 : w.cell? ⟨b,3,none⟩ = some (i64 d)
 c4 : w.cell? ⟨b,4,none⟩ = some (i64 who)
 c5 : w.cell? ⟨b,5,none⟩ = some (i64 x)
structure Cl where
 t : Int
 s : Int
 so : Int
 d : Int
 who : Int
 slot : Int
 steps : Int
 ws : Int
 we : Int
 wg : Int
 wl : Int
 wh : Int
 ph : Int
abbrev Cl.list (k : Cl) : List Value:=[i64 k.t,i64 k.s,i64 k.so,i64 k.d,i64 k.who,i64 k.slot,i64 k.steps,i64 k.ws,i64 k.we,i64 k.wg,i64 k.wl,i64 k.wh,i64 k.ph]
structure AtCl (w : World) (b : Nat) (k : Cl) : Prop where
 c0 : w.cell? ⟨b,0,none⟩ = some (i64 k.t)
 c1 : w.cell? ⟨b,1,none⟩ = some (i64 k.s)
 c2 : w.cell? ⟨b,2,none⟩ = some (i64 k.so)
 c3 : w.cell? ⟨b,3,none⟩ = some (i64 k.d)
 c4 : w.cell? ⟨b,4,none⟩ = some (i64 k.who)
 c5 : w.cell? ⟨b,5,none⟩ = some (i64 k.slot)
 c6 : w.cell? ⟨b,6,none⟩ = some (i64 k.steps)
 c7 : w.cell? ⟨b,7,none⟩ = some (i64 k.ws)
 c8 : w.cell? ⟨b,8,none⟩ = some (i64 k.we)
 c9 : w.cell? ⟨b,9,none⟩ = some (i64 k.wg)
 c10 : w.cell? ⟨b,10,none⟩ = some (i64 k.wl)
 c11 : w.cell? ⟨b,11,none⟩ = some (i64 k.wh)
 c12 : w.cell? ⟨b,12,none⟩ = some (i64 k.ph)
theorem IsObj.cl {w : World} {b : Nat} {k : Cl} (h : IsObj w b k.list) : AtCl w b k :=
 ⟨h.at' 0 _ rfl,h.at' 1 _ rfl,h.at' 2 _ rfl,h.at' 3 _ rfl,h.at' 4 _ rfl,h.at' 5 _ rfl,h.at' 6 _ rfl,h.at' 7 _ rfl,h.at' 8 _ rfl,h.at' 9 _ rfl,h.at' 10 _ rfl,h.at' 11 _ rfl,h.at' 12 _ rfl⟩
theorem IsObj.head {w : World} {b : Nat} {t s so d who x : Int} {l : List Value} (h : IsObj w b (i64 t :: i64 s :: i64 so :: i64 d :: i64 who :: i64 x :: l)) : AtHead w b t s so d who x :=
 ⟨h.at' 0 _ rfl,h.at' 1 _ rfl,h.at' 2 _ rfl,h.at' 3 _ rfl,h.at' 4 _ rfl,h.at' 5 _ rfl⟩
def Cl.word (k : Cl) (x : Int) : Cl := { k with ws:=x % 4,we:=x / 4 % 2,wg:=x / 8 % 8192,wl:=x / 65536 % 16777216,wh:=x / 1099511627776 }
def Cl.pass (k : Cl) (m : Int) : Cl:=if k.slot = m + k.s - 1 then { k with ph:=2 } else { k with slot:=k.slot + 1,steps:=0 }
def Cl.look (k : Cl) (m x : Int) : Cl:=if x / 8 % 8192 = 8191 then (k.word x).pass m else if x % 4 = 0 then { k.word x with ph:=1 } else if x % 4 = 2 then { k.word x with steps:=1 } else (k.word x).pass m
def Cl.guard (k : Cl) (m x : Int) : Cl:=if x = k.slot + 1 then k.pass m else if k.steps = k.t then { k with ph:=1 } else { k with steps:=k.steps + 1 }
def Cl.cell (k : Cl) (hz : Nat) : Nat:=if k.steps = 0 then k.slot.toNat else hz + (k.steps - 1).toNat
def Cl.step (k : Cl) (m : Int) (hz : Nat) (C : List Int) : Cl:=if k.ph = 0 then if k.steps = 0 then k.look m (C.getD (k.cell hz) 0) else k.guard m (C.getD (k.cell hz) 0) else k
def Cl.ev (k : Cl) (hz : Nat) (C : List Int) : List Ev:=if k.ph = 0 then [⟨k.who,0,(k.cell hz : Nat),C.getD (k.cell hz) 0,C.getD (k.cell hz) 0,true⟩] else []
structure Cl.Ok (k : Cl) (n m : Int) (hz : Nat) (C : List Int) : Prop where
 lay : Lay k.t k.s n
 hz : (hz : Int) = 2 * n
 len : (C.length : Int) = 2 * n + 2 * k.t
 w0 : 0 ≤ k.who
 w1 : k.who < k.t
 hm : k.who * k.s = m
 m0 : 0 ≤ m
 m1 : m + k.s ≤ n
 s0 : m ≤ k.slot
 s1 : k.slot < m + k.s
 g0 : 0 ≤ k.steps
 g1 : k.steps ≤ k.t
theorem zBA (w : World) (b : Nat) (k : Cl) (n m : Int) (hl : Lay k.t k.s n) (w0 : 0 ≤ k.who) (w1 : k.who < k.t) (hm : k.who * k.s = m) (m0 : 0 ≤ m) (m1 : m + k.s ≤ n) (s0 : m ≤ k.slot) (s1 : k.slot < m + k.s) (hT : IsObj w b k.list) :
  Calls Tryz.prog 93 #[pt b] w fun r w'=>r = .returned (.tuple #[]) ∧ IsObj w' b (k.pass m).list ∧ Keep (· = b) w w':=by
 have hn2:=hl.n2
 have hs1:=hl.s1
 have hs2:=hl.s2
 have HT:=zIo hT
 have hA : AtHead w.drew b k.t k.s k.so k.d k.who k.slot:=hT.drew.head
 have hlt:=hT.lt
 have Hm:=zIo hm
 have e1 : IntKind.i64.wrap (m + k.s) = m + k.s:=IntWalk.i64_in _ (by omega)
 have e2 : IntKind.i64.wrap (m + k.s - 1) = m + k.s - 1:=IntWalk.i64_in _ (by omega)
 clear hT hm
 unfold Cl.pass
 by_cases he : k.slot = m + k.s - 1
 ·have q : (k.slot == m + k.s - 1) = true:=by simp [he]
  rw [if_pos he]
  clear he
  go_enter Tryz.func93,Tryz.ntmps93
  go_wp2_with fail
  refine zAD ((fun w'=>AtHead w' b k.t k.s k.so k.d k.who k.slot)) ((0,true) :: (1,true) :: (2,true) :: (3,true) :: (4,true) :: (5,true) :: (6,true) :: (7,true) :: (8,true) :: (9,true) :: (10,true) :: (11,true) :: (13,true) :: (14,true) :: (15,true) :: (16,true) :: (17,true) :: (12,false) :: (18,true) :: (19,true) :: (20,true) :: []) (by kernel_rfl) (by kernel_rfl) (by kernel_rfl) (by decide) (fun _ _ _ _ _ h=>h) (hA) ?_
  repeat ((first | (refine zAC (v := ?_) rfl ?_ ?_ ?_; rotate_left 1; rfl; focus (rintro wS ⟨c0,c1,c2,c3,c4,c5⟩; go_simp <;> with_reducible rfl)) | (refine zAB rfl ?_ ?_; rfl)); try simp only [Act.put,qset])
  refine zAH rfl (fun K hK=>?_)
  go_simp
  go_at_call 60
  refine (zBx _ _ _ _ n _ m _ hl w0 w1 Hm.out m0 (by omega)).mono ?_
  rintro r w1 ⟨rfl,hb1⟩
  (try go_wp2_with fail)
  have HT1:=zIo (HT.out.drew.later hb1)
  have HB:=zIo hb1
  clear hb1
  refine hK.out _ _ (HT1.out.head) (fun _=>?_)
  (try simp only [Act.put,qset])
  clear hK K
  repeat ((first | (refine zAC (v := ?_) rfl ?_ ?_ ?_; rotate_left 1; rfl; focus (rintro wS ⟨c0,c1,c2,c3,c4,c5⟩; go_simp <;> with_reducible rfl)) | (refine zAB rfl ?_ ?_; rfl)); try simp only [Act.put,qset])
  refine zAJ ?_
  obtain ⟨c0,c1,c2,c3,c4,c5,c6,c7,c8,c9,c10,c11,c12⟩:=HT1.out.cl
  have f12:=HT1.out.fz 12
  go_wp2
  refine bodyPost_ret (results_none rfl _ _ _) rfl ?_
  exact ⟨rfl,HT1.out.set 12 (.int .i64 2),((Keep.refl _ _).drew.trans (Keep.of_below HB.out)).own 12 _⟩
 ·have q : (k.slot == m + k.s - 1) = false:=by simp [he]
  rw [if_neg he]
  clear he
  go_enter Tryz.func93,Tryz.ntmps93
  go_wp2_with fail
  refine zAD ((fun w'=>AtHead w' b k.t k.s k.so k.d k.who k.slot)) ((0,true) :: (1,true) :: (2,true) :: (3,true) :: (4,true) :: (5,true) :: (6,true) :: (7,true) :: (8,true) :: (9,true) :: (10,true) :: (11,true) :: (13,true) :: (14,true) :: (15,true) :: (16,true) :: (17,true) :: (12,false) :: (18,true) :: (19,true) :: (20,true) :: []) (by kernel_rfl) (by kernel_rfl) (by kernel_rfl) (by decide) (fun _ _ _ _ _ h=>h) (hA) ?_
  repeat ((first | (refine zAC (v := ?_) rfl ?_ ?_ ?_; rotate_left 1; rfl; focus (rintro wS ⟨c0,c1,c2,c3,c4,c5⟩; go_simp <;> with_reducible rfl)) | (refine zAB rfl ?_ ?_; rfl)); try simp only [Act.put,qset])
  refine zAH rfl (fun K hK=>?_)
  go_simp
  go_at_call 60
  refine (zBx _ _ _ _ n _ m _ hl w0 w1 Hm.out m0 (by omega)).mono ?_
  rintro r w1 ⟨rfl,hb1⟩
  (try go_wp2_with fail)
  have HT1:=zIo (HT.out.drew.later hb1)
  have HB:=zIo hb1
  clear hb1
  refine hK.out _ _ (HT1.out.head) (fun _=>?_)
  (try simp only [Act.put,qset])
  clear hK K
  repeat ((first | (refine zAC (v := ?_) rfl ?_ ?_ ?_; rotate_left 1; rfl; focus (rintro wS ⟨c0,c1,c2,c3,c4,c5⟩; go_simp <;> with_reducible rfl)) | (refine zAB rfl ?_ ?_; rfl)); try simp only [Act.put,qset])
  refine zAJ ?_
  obtain ⟨c0,c1,c2,c3,c4,c5,c6,c7,c8,c9,c10,c11,c12⟩:=HT1.out.cl
  have e3 : wrap64 (k.slot + 1) = k.slot + 1:=by unfold wrap64; omega
  have f5:=HT1.out.fz 5
  have f6:=HT1.out.fz 6
  go_wp2
  go_end0
  exact ⟨rfl,(HT1.out.set 5 (.int .i64 (k.slot + 1))).set 6 (.int .i64 0),(((Keep.refl _ _).drew.trans (Keep.of_below HB.out)).own 5 _).own 6 _⟩
theorem zC9 (base : Nat) (w : World) (p c : Nat) (v : Value) (C : List Int) (L : List Ev) (who i : Int) (j : Nat) (x : Int) (hi : i = (j : Int)) (hM : IsMem base w p c v C L) (hx : C[j]? = some x) (hb : base ≤ w.heap.size) (hL : L.length < 1000000000) :
  Calls Tryz.prog 92 #[pt p,i64 who,i64 i] w (MemPost base w p c v C (L ++ [⟨who,0,j,x,x,true⟩]) (.returned (u64 x))):=by
 subst hi
 exact zAt base w p c v C L who j x hM hx hb hL
def ClPost (base : Nat) (w : World) (b p c : Nat) (v : Value) (k' : Cl) (C' : List Int) (L' : List Ev) (e0 : Ending) (e : Ending) (w' : World) : Prop :=
 e = e0 ∧ ∃ v',Does (· = b) base w w' p c v v' C' L' ∧ IsObj w' b k'.list
end
end
section
open Go.RowKit
section
theorem zDq {P : Program} {o : Oper} {a : Act} {w : World} {K : Act → World → Prop} {Q : Exit → Act → World → Prop} (l c : Operand) (t : TypeId) (hop : o.op = Op.makeSlice t l c)
  (base : Nat) (e : TypeId) (i : TypeInfo) (z : Value) (size : Nat) (h1 : P.underlying t = some (.slice e)) (h2 : P.info? e = some i) (h3 : i.zero = some z) (h4 : i.size = size)
  (kl kc : IntKind) (n : Nat) (hl : a.eval l = .int kl (n : Int)) (hc : a.eval c = .int kc (n : Int)) (b2 : i.bytes * n ≤ 281474976710656) (b3 : n ≤ maxLen) (b4 : base ≤ w.heap.size)
  (hK : ∀ w',w'.ownsRow base e size (.slice (some ⟨w.heap.size,0,none⟩) n n) n (madeCells z.cells (n * size)).toList → w.grownBy w' none → K (a.put o.dst (.slice (some ⟨w.heap.size,0,none⟩) n n)) w') :
  Oper.wp P o a w K Q:=by
 obtain ⟨w',hrun,r1,r2⟩:=run_make_full (P:=P) w base t e i z size h1 h2 h3 h4 kl kc n b2 b3 b4
 unfold Oper.wp
 simp [execOp,hop,hl,hc,hrun,Result.andThen]
 exact hK w' r1 r2
theorem zAq {P : Program} {ops : Array Oper} {o : Oper} {a : Act} {w : World} {K : Act → World → Prop} {Q : Exit → Act → World → Prop} {E : Prop} (hg : o.guard = none) (l c : Operand) (t : TypeId) (hop : o.op = Op.makeSlice t l c)
  (base : Nat) (e : TypeId) (i : TypeInfo) (z : Value) (size : Nat) (h1 : P.underlying t = some (.slice e)) (h2 : P.info? e = some i) (h3 : i.zero = some z) (h4 : i.size = size)
  (kl kc : IntKind) (n : Nat) (hl : a.eval l = .int kl (n : Int)) (hc : a.eval c = .int kc (n : Int)) (b2 : i.bytes * n ≤ 281474976710656) (b3 : n ≤ maxLen) (b4 : base ≤ w.heap.size)
  (hK : ∀ w',w'.ownsRow base e size (.slice (some ⟨w.heap.size,0,none⟩) n n) n (madeCells z.cells (n * size)).toList → w.grownBy w' none → K (a.put o.dst (.slice (some ⟨w.heap.size,0,none⟩) n n)) w') :
  if Region.wanted o (yielded ops a.tmps) = true then Oper.wp P o a w K Q else E:=by
 have hw : Region.wanted o (yielded ops a.tmps) = true:=by simp [Region.wanted,hg]
 rw [if_pos hw]
 exact zDq l c t hop base e i z size h1 h2 h3 h4 kl kc n hl hc b2 b3 b4 hK
structure Sn where
 t : Int
 s : Int
 so : Int
 d : Int
 who : Int
 start : Int
 read : Int
 N : Nat
 turned : Bool
 passes : Int
 ph : Int
 X : List Int
abbrev Sn.list (k : Sn) (g : Nat) : List Value:=[i64 k.t,i64 k.s,i64 k.so,i64 k.d,i64 k.who,i64 k.start,i64 k.read,.slice (some ⟨g,0,none⟩) k.N k.N,.bool k.turned,i64 k.passes,i64 k.ph]
structure AtSn (w : World) (b g : Nat) (k : Sn) : Prop where
 c0 : w.cell? ⟨b,0,none⟩ = some (i64 k.t)
 c1 : w.cell? ⟨b,1,none⟩ = some (i64 k.s)
 c2 : w.cell? ⟨b,2,none⟩ = some (i64 k.so)
 c3 : w.cell? ⟨b,3,none⟩ = some (i64 k.d)
 c4 : w.cell? ⟨b,4,none⟩ = some (i64 k.who)
 c5 : w.cell? ⟨b,5,none⟩ = some (i64 k.start)
 c6 : w.cell? ⟨b,6,none⟩ = some (i64 k.read)
 c7 : w.cell? ⟨b,7,none⟩ = some (.slice (some ⟨g,0,none⟩) k.N k.N)
 c8 : w.cell? ⟨b,8,none⟩ = some (.bool k.turned)
 c9 : w.cell? ⟨b,9,none⟩ = some (i64 k.passes)
 c10 : w.cell? ⟨b,10,none⟩ = some (i64 k.ph)
structure IsSn (base : Nat) (w : World) (b g : Nat) (k : Sn) : Prop where
 obj : IsObj w b (k.list g)
 row : w.ownsRow base 41 1 (.slice (some ⟨g,0,none⟩) k.N k.N) k.N (k.X.map u64)
 bb : base ≤ b
 ne : b ≠ g
section
variable {base : Nat} {w w' : World} {b g : Nat} {k : Sn}
theorem IsSn.at (h : IsSn base w b g k) : AtSn w b g k :=
 ⟨h.obj.at' 0 _ rfl,h.obj.at' 1 _ rfl,h.obj.at' 2 _ rfl,h.obj.at' 3 _ rfl,h.obj.at' 4 _ rfl,h.obj.at' 5 _ rfl,h.obj.at' 6 _ rfl,h.obj.at' 7 _ rfl,h.obj.at' 8 _ rfl,h.obj.at' 9 _ rfl,h.obj.at' 10 _ rfl⟩
theorem IsSn.head (h : IsSn base w b g k) : AtHead w b k.t k.s k.so k.d k.who k.start:=h.obj.head
theorem IsSn.len (h : IsSn base w b g k) : k.X.length = k.N:=by
 have:=h.row.1
 rw [List.length_map] at this
 omega
theorem IsSn.gb (h : IsSn base w b g k) : base ≤ g ∧ g < w.heap.size:=h.row.lt g rfl
theorem IsSn.keep {T : Nat → Prop} (h : IsSn base w b g k) (e : Keep T w w') (hb : ¬ T b) (hg : ¬ T g) : IsSn base w' b g k :=
 ⟨h.obj.keep e hb,e.row h.row (fun i hi=>by cases hi; exact hg),h.bb,h.ne⟩
theorem IsSn.later (h : IsSn base w b g k) (e : Below w.heap.size w w') : IsSn base w' b g k:=h.keep (T:=fun _=>False) (Keep.of_below e) (fun h=>h) (fun h=>h)
theorem IsSn.drew (h : IsSn base w b g k) : IsSn base w.drew b g k:=h.later (Below.refl _ _).drew
theorem IsSn.cell (h : IsSn base w b g k) {j : Nat} {y : Int} (hy : k.X[j]? = some y) : w.cell? ⟨g,j,none⟩ = some (u64 y):=by
 have hj:=(List.getElem?_eq_some_iff.1 hy).1
 rw [h.row.cellAt j (by have:=h.len; omega),List.getElem?_map,hy]
 rfl
theorem IsSn.set (h : IsSn base w b g k) (i : Nat) (u : Value) {k' : Sn} (hk : (k.list g).set i u = k'.list g) (hN : k'.N = k.N) (hX : k'.X = k.X) : IsSn base (w.setCell ⟨b,i,none⟩ u) b g k' :=
 ⟨hk ▸ h.obj.set i u,by rw [hN,hX]; exact zBE h.row ⟨b,i,none⟩ (by simp [Value.ownBlock]; exact fun e=>h.ne e.symm) u,h.bb,h.ne⟩
theorem IsSn.word (h : IsSn base w b g k) (j : Nat) (x : Int) : IsSn base (w.setCell ⟨g,j,none⟩ (u64 x)) b g { k with X:=k.X.set j x } :=
 ⟨h.obj.other j (u64 x) (fun e=>h.ne e.symm),by
  have h2:=h.row.stored j (u64 x)
  show World.ownsRow _ _ _ _ _ k.N ((k.X.set j x).map u64)
  rw [List.map_set]
  exact h2.1,h.bb,h.ne⟩
end
def Sn.fin (k : Sn) : Sn := { k with passes:=k.passes + 1,ph:=if 1 < k.passes + 1 ∧ k.turned = false then 1 else k.ph,read:=0,turned:=false }
def Sn.slot (k : Sn) : Nat:=((k.start + k.read) % (k.N : Int)).toNat
def Sn.put (k : Sn) (x : Int) : Sn := { k with X:=k.X.set k.slot x,turned:=k.turned || decide (x ≠ k.X.getD k.slot 0),read:=k.read + 1 }
def Sn.step (k : Sn) (C : List Int) : Sn:=if k.ph = 0 then if k.read + 1 = (k.N : Int) then (k.put (C.getD k.slot 0)).fin else k.put (C.getD k.slot 0) else k
def Sn.ev (k : Sn) (C : List Int) : List Ev:=if k.ph = 0 then [⟨k.who,0,(k.slot : Nat),C.getD k.slot 0,C.getD k.slot 0,true⟩] else []
structure Sn.Ok (k : Sn) (n : Int) (C : List Int) : Prop where
 lay : Lay k.t k.s n
 N : (k.N : Int) = n
 len : (C.length : Int) = 2 * n + 2 * k.t
 X : k.X.length = k.N
 s0 : 0 ≤ k.start
 s1 : k.start < n
 r0 : 0 ≤ k.read
 r1 : k.read < n
 p0 : 0 ≤ k.passes
 p1 : k.passes ≤ 1000000
section
variable (base : Nat) (w : World) (b g : Nat) (k : Sn)
def WordsPost (X : List Int) (N : Nat) (w : World) (r : Ending) (w' : World) : Prop :=
 ∃ h,r = .returned (.slice (some ⟨h,0,none⟩) N N) ∧ w'.ownsRow w.heap.size 41 1 (.slice (some ⟨h,0,none⟩) N N) N (X.map u64) ∧ Below w.heap.size w w'
theorem zFP (hT : IsSn base w b g k) (w1 : World) (hown : w1.ownsRow w.heap.size 41 1 (.slice (some ⟨w.heap.size,0,none⟩) k.N k.N) k.N (madeCells (Value.int .u64 0).cells (k.N * 1)).toList) (hg : w.grownBy w1 none) :
  Hid (w1.heap[w.heap.size]? = some (.cells (List.replicate k.N (u64 0)).toArray 41 (0,0))) ∧ Hid (Below w.heap.size w w1) ∧ Hid (IsSn base w1 b g k) ∧ Hid (∀ (j : Nat) (v : Value),(k.X.map u64)[j]? = some v → w1.cell? ((⟨g,0,none⟩ : Addr).add j) = some v):=by
 have hb1 : Below w.heap.size w w1:=(Below.refl _ _).grown hg (Nat.le_refl _) (fun k hk=>by cases hk)
 have hT1:=hT.later hb1
 refine ⟨?_,hb1,hT1, ?_⟩
 ·show _ = _
  rw [zBb] at hown
  rcases hown.2 with ⟨h0,_⟩ | ⟨g',cap,cur,hv,_,hh,_,_,hcs,hct⟩
  ·cases h0
  ·cases hv
   rw [hh]
   have h2 : cur.toList = List.replicate k.N (u64 0):=by
    rw [List.take_of_length_le (by rw [Array.length_toList,hcs]; exact Nat.le_refl _)] at hct
    rw [hct,List.map_replicate]
   rw [← h2,Array.toArray_toList]
 ·intro j v hj
  rw [zBK,Nat.zero_add]
  rw [List.getElem?_map] at hj
  obtain ⟨x,hx,rfl⟩:=Option.map_eq_some_iff.1 hj
  exact hT1.cell hx
theorem zEK (hp : k.ph = 1) (hN : k.N ≤ 4096) (hT : IsSn base w b g k) : Calls Tryz.prog 87 #[pt b] w (WordsPost k.X k.N w):=by
 have q : (k.ph != 1) = false:=by simp [hp]
 obtain ⟨c0,c1,c2,c3,c4,c5,c6,c7,c8,c9,c10⟩:=hT.at
 obtain ⟨i,hi,hz0,hz1,hz2⟩:=zAW.info
 have HM:=zIo (zFP base w b g k hT)
 have HL:=zIo hT.len
 clear hp hT
 go_enter Tryz.func87,Tryz.ntmps87
 go_wp2_with (first
  | (refine wpList_make_full _ rfl _ _ 38 rfl w.heap.size 41 i (.int .u64 0) 1 zAW.und hi hz0 hz1 .i64 .i64 _ _ k.N rfl rfl rfl rfl (by rw [hz2]; omega) (by unfold maxLen; omega) (Nat.le_refl _) ?_; intro w1 hown hgrow; obtain ⟨HH,HB,HT1,HSRC⟩:=HM.out w1 hown hgrow; clear hown hgrow c0 c1 c2 c3 c4 c5 c6 c7 c8 c9 c10; obtain ⟨c0,c1,c2,c3,c4,c5,c6,c7,c8,c9,c10⟩:=HT1.out.at)
  | (refine wpList_copy_splice rfl _ _ 38 38 rfl 41 zAW.und (by kernel_rfl) _ _ _ _ _ _ rfl rfl w.heap.size 0 (List.replicate k.N (u64 0)) 41 HH.out (k.X.map u64) (by rw [List.length_map,HL.out]; exact (Nat.min_self _).symm) (fun _=>⟨rfl,_,rfl,HSRC.out⟩) (by rw [List.length_map,List.length_replicate,HL.out]; omega) (fun v hv=>by obtain ⟨x,_,rfl⟩:=List.mem_map.1 hv; rfl) w.heap.size w HB.out (Nat.le_refl _) ?_; intro w2 hg2 hb2))
 go_ret
 refine ⟨_,rfl, ?_,hb2⟩
 have hs : splice (List.replicate k.N (u64 0)) 0 (k.X.map u64) = k.X.map u64:=by
  unfold splice
  rw [List.take_zero,List.nil_append,List.drop_of_length_le (by rw [List.length_map,List.length_replicate,HL.out]; omega),List.append_nil]
 have h2:=hg2.out
 rw [hs] at h2
 exact ⟨by rw [List.length_map,HL.out]; omega,.inr ⟨w.heap.size,k.N,_,rfl,Nat.le_refl _,h2,Nat.le_refl _,by unfold maxLen; omega,by simp [HL.out],by rw [Nat.mul_one]; exact List.take_of_length_le (by simp [HL.out])⟩⟩
def sn0 (t s so d who start : Int) (N : Nat) : Sn:=⟨t,s,so,d,who,start,0,N,false,0,0,List.replicate N 0⟩
theorem zAy (start : Int) (n : Nat) (h1 : 1 ≤ n) (h2 : n ≤ 4096) : IntKind.u64.wrap (n : Int) = n ∧ wrap64 ((IntKind.u64.wrap start).tmod n) = IntKind.u64.wrap start % n ∧ IntKind.i64.wrap ((IntKind.u64.wrap start).tmod n) = IntKind.u64.wrap start % n ∧ 0 ≤ IntKind.u64.wrap start % n ∧ IntKind.u64.wrap start % n < n:=by
 have h0 : 0 ≤ IntKind.u64.wrap start:=by rw [IntKind.wrap_u64]; omega
 have h3:=Int.emod_nonneg (IntKind.u64.wrap start) (show (n : Int) ≠ 0 by omega)
 have h4:=Int.emod_lt_of_pos (IntKind.u64.wrap start) (show (0 : Int) < n by omega)
 rw [Int.tmod_eq_emod_of_nonneg h0]
 exact ⟨by rw [IntKind.wrap_u64]; omega,by unfold wrap64; omega,IntWalk.i64_in _ (by omega),h3,h4⟩
theorem zDh (t s so d who start n : Int) (N : Nat) (hl : Lay t s n) (hN : (N : Int) = n) (hb : base ≤ w.heap.size) :
  Calls Tryz.prog 49 #[cf t s so d,i64 who,i64 start] w fun r w' => ∃ b g,r = .returned (pt b) ∧ IsSn base w' b g (sn0 t s so d who (IntKind.u64.wrap start % N) N) ∧ Below w.heap.size w w' ∧ w.heap.size ≤ b ∧ w.heap.size ≤ g:=by
 have hn1:=hl.n1; have hn2:=hl.n2; have ht1:=hl.t1
 obtain ⟨m1,m2,m5,m3,m4⟩:=zAy start N (by omega) (by omega)
 have hn0 : ¬ N = 0:=by omega
 obtain ⟨i,hi,hz0,hz1,hz2⟩:=zAW.info
 have hwn : IntKind.u64.wrap n = N:=by rw [← hN]; exact m1
 subst hN
 clear m1
 go_enter Tryz.func49,Tryz.ntmps49
 go_wp2_with fail
 refine (zBX _ _ _ _ N _ hl).mono ?_
 rintro r w1 ⟨rfl,hb1⟩
 have hbox : AtC w1 w.heap.size t s so d:=(AtC.made w t s so d).later hb1 (by simp)
 obtain ⟨q0,q1,q2,q3⟩:=hbox
 have hb01:=zIo (zAE (zAA (Below.refl _ _) _) hb1)
 clear hb1
 go_wp2_with fail
 refine zAN ((0,true) :: (1,true) :: (2,true) :: (3,true) :: (4,true) :: (5,true) :: (6,true) :: (7,true) :: (8,true) :: (9,false) :: (10,true) :: (11,false) :: (12,true) :: []) (by kernel_rfl) (by kernel_rfl) (by kernel_rfl) (by decide) (fun _ _ _ _ _ h=>h) (fun hHeld=>?_)
 repeat (first
  | (refine zAC (v := ?_) rfl ?_ ?_ ?_; rotate_left 1; rfl; (focus (intro wS hSw; have hk:=zAM hSw; go_simp; first | done | with_reducible rfl)); (try simp only [Act.put,qset]))
  | (refine zAB rfl ?_ ?_; rfl; (try simp only [Act.put,qset])))
 refine zAH rfl (fun K hK=>?_)
 refine zAq rfl _ _ 38 rfl base 41 i (.int .u64 0) 1 zAW.und hi hz0 hz1 .i64 .i64 N rfl rfl (by rw [hz2]; omega) (by unfold maxLen; omega) (by have:=hb01.out.size; exact Nat.le_trans hb this) ?_
 intro w2 hown hg
 have hs1:=(hown.lt _ rfl).2
 have HG : Hid (Below w1.heap.size w1 w2):=((Below.refl _ _).drew).grown hg (Nat.le_refl _) (fun k hk=>by cases hk)
 have HO:=zIo hown
 clear hown hg
 refine hK.out _ _ HG.out (fun _=>?_)
 (try simp only [Act.put,qset])
 clear hK K hHeld
 have hHeld:=HG.out
 repeat (first
  | (refine zAC (v := ?_) rfl ?_ ?_ ?_; rotate_left 1; rfl; (focus (intro wS hSw; have hk:=zAM hSw; go_simp; first | done | with_reducible rfl)); (try simp only [Act.put,qset]))
  | (refine zAB rfl ?_ ?_; rfl; (try simp only [Act.put,qset])))
 refine zAH rfl (fun K hK=>?_); go_simp; (try skip); (try go_wp2_with fail); refine hK.out _ _ ?_ ?_; (focus (first | exact zAE hHeld hb' | exact zAA hHeld _ | exact hHeld)); (try clear hb'); clear hHeld hK K; intro hHeld; (try simp only [Act.put,qset])
 repeat (first
  | (refine zAC (v := ?_) rfl ?_ ?_ ?_; rotate_left 1; rfl; (focus (intro wS hSw; have hk:=zAM hSw; go_simp; first | done | with_reducible rfl)); (try simp only [Act.put,qset]))
  | (refine zAB rfl ?_ ?_; rfl; (try simp only [Act.put,qset])))
 first | refine zAJ ?_ | skip
 go_wp2
 go_ret
 have ho:=HO.out
 rw [zBb] at ho
 have hsz:=hb01.out.size
 have hd : w1.drew.heap.size = w1.heap.size:=rfl
 exact ⟨w2.heap.size,w1.heap.size,rfl,⟨IsObj.made w2 ((sn0 t s so d who (IntKind.u64.wrap start % N) N).list w1.heap.size) 146,ho.alloc _,by omega,by omega⟩,zAE hb01.out hHeld,by omega,by omega⟩
end
end
section
def SnPost (base : Nat) (w : World) (b g p c : Nat) (v : Value) (k' : Sn) (C' : List Int) (L' : List Ev) (e0 : Ending) (e : Ending) (w' : World) : Prop :=
 e = e0 ∧ ∃ v',Does (fun i=>i = b ∨ i = g) base w w' p c v v' C' L' ∧ IsSn base w' b g k'
section
variable (base : Nat) (w : World) (b g p c : Nat) (v : Value) (C : List Int) (L : List Ev) (k : Sn) (n : Int)
theorem zIP (h4 : k.passes = 0) (p0 : 0 ≤ k.passes) (p1 : k.passes ≤ 1000000) (hT : IsSn base w b g k) :
  Calls Tryz.prog 102 #[pt b] w fun r w'=>r = .returned (.tuple #[]) ∧ IsSn base w' b g k.fin ∧ Keep (· = b) w w':=by
 have hfin : k.fin = { k with passes:=k.passes + 1,read:=0,turned:=false }:=by unfold Sn.fin; rw [if_neg (by rintro ⟨h,h'⟩; omega)]
 rw [hfin]
 clear hfin
 obtain ⟨c0,c1,c2,c3,c4,c5,c6,c7,c8,c9,c10⟩:=hT.at
 have f3:=hT.obj.fz 6
 have f5:=hT.obj.fz 8
 have f6:=hT.obj.fz 9
 have f7:=hT.obj.fz 10
 have e1 : wrap64 (k.passes + 1) = k.passes + 1:=by unfold wrap64; omega
 have q1 : decide ((1 : Int) < k.passes + 1) = false:=decide_eq_false (by omega)
 have HT:=zIo hT
 clear h4 hT
 go_enter Tryz.func102,Tryz.ntmps102
 go_wp2
 go_end0
 have h1:=HT.out.set 9 (.int .i64 (k.passes + 1)) (k' := { k with passes:=k.passes + 1 }) rfl rfl rfl
 have h2:=h1.set 6 (.int .i64 0) (k' := { k with passes:=k.passes + 1,read:=0 }) rfl rfl rfl
 exact ⟨rfl,h2.set 8 (.bool false) (k' := { k with passes:=k.passes + 1,read:=0,turned:=false }) rfl rfl rfl,(((Keep.refl _ _).own 9 _).own 6 _).own 8 _⟩
theorem zIN (h4 : 0 < k.passes ∧ k.turned = true) (p0 : 0 ≤ k.passes) (p1 : k.passes ≤ 1000000) (hT : IsSn base w b g k) :
  Calls Tryz.prog 102 #[pt b] w fun r w'=>r = .returned (.tuple #[]) ∧ IsSn base w' b g k.fin ∧ Keep (· = b) w w':=by
 have hfin : k.fin = { k with passes:=k.passes + 1,read:=0,turned:=false }:=by unfold Sn.fin; rw [if_neg (by rintro ⟨h,h'⟩; rw [h4.2] at h'; cases h')]
 rw [hfin]
 clear hfin
 obtain ⟨c0,c1,c2,c3,c4,c5,c6,c7,c8,c9,c10⟩:=hT.at
 have f3:=hT.obj.fz 6
 have f5:=hT.obj.fz 8
 have f6:=hT.obj.fz 9
 have f7:=hT.obj.fz 10
 have e1 : wrap64 (k.passes + 1) = k.passes + 1:=by unfold wrap64; omega
 have q1 : decide ((1 : Int) < k.passes + 1) = true:=decide_eq_true (by omega)
 rw [h4.2] at c8
 have HT:=zIo hT
 clear h4 hT
 go_enter Tryz.func102,Tryz.ntmps102
 go_wp2
 go_end0
 have h1:=HT.out.set 9 (.int .i64 (k.passes + 1)) (k' := { k with passes:=k.passes + 1 }) rfl rfl rfl
 have h2:=h1.set 6 (.int .i64 0) (k' := { k with passes:=k.passes + 1,read:=0 }) rfl rfl rfl
 exact ⟨rfl,h2.set 8 (.bool false) (k' := { k with passes:=k.passes + 1,read:=0,turned:=false }) rfl rfl rfl,(((Keep.refl _ _).own 9 _).own 6 _).own 8 _⟩
theorem zID (h4 : 0 < k.passes ∧ k.turned = false) (p0 : 0 ≤ k.passes) (p1 : k.passes ≤ 1000000) (hT : IsSn base w b g k) :
  Calls Tryz.prog 102 #[pt b] w fun r w'=>r = .returned (.tuple #[]) ∧ IsSn base w' b g k.fin ∧ Keep (· = b) w w':=by
 have hfin : k.fin = { k with passes:=k.passes + 1,ph:=1,read:=0,turned:=false }:=by unfold Sn.fin; rw [if_pos ⟨by omega,h4.2⟩]
 rw [hfin]
 clear hfin
 obtain ⟨c0,c1,c2,c3,c4,c5,c6,c7,c8,c9,c10⟩:=hT.at
 have f3:=hT.obj.fz 6
 have f5:=hT.obj.fz 8
 have f6:=hT.obj.fz 9
 have f7:=hT.obj.fz 10
 have e1 : wrap64 (k.passes + 1) = k.passes + 1:=by unfold wrap64; omega
 have q1 : decide ((1 : Int) < k.passes + 1) = true:=decide_eq_true (by omega)
 rw [h4.2] at c8
 have HT:=zIo hT
 clear h4 hT
 go_enter Tryz.func102,Tryz.ntmps102
 go_wp2
 go_end0
 have h1:=HT.out.set 9 (.int .i64 (k.passes + 1)) (k' := { k with passes:=k.passes + 1 }) rfl rfl rfl
 have h2:=h1.set 10 (.int .i64 1) (k' := { k with passes:=k.passes + 1,ph:=1 }) rfl rfl rfl
 have h3:=h2.set 6 (.int .i64 0) (k' := { k with passes:=k.passes + 1,ph:=1,read:=0 }) rfl rfl rfl
 exact ⟨rfl,h3.set 8 (.bool false) (k' := { k with passes:=k.passes + 1,ph:=1,read:=0,turned:=false }) rfl rfl rfl,((((Keep.refl _ _).own 9 _).own 10 _).own 6 _).own 8 _⟩
theorem zBq (p0 : 0 ≤ k.passes) (p1 : k.passes ≤ 1000000) (hT : IsSn base w b g k) :
  Calls Tryz.prog 102 #[pt b] w fun r w'=>r = .returned (.tuple #[]) ∧ IsSn base w' b g k.fin ∧ Keep (· = b) w w':=by
 by_cases h0 : k.passes = 0
 ·exact zIP base w b g k h0 p0 p1 hT
 ·cases ht : k.turned with
  | true=>exact zIN base w b g k ⟨by omega,ht⟩ p0 p1 hT
  | false=>exact zID base w b g k ⟨by omega,ht⟩ p0 p1 hT
theorem zEE (hp : k.ph ≠ 0) (hT : IsSn base w b g k) (hM : IsMem base w p c v C L) (ha : ∀ i,(i = b ∨ i = g) → ¬ Foot p c v i) (hb : base ≤ w.heap.size) :
  Calls Tryz.prog 86 #[pt b,pt p] w (SnPost base w b g p c v k C L (.returned (i64 k.ph))):=by
 have qp : (k.ph != 0) = true:=by simp [hp]
 have HS:=zIo (Does.refl (B:=fun i=>i = b ∨ i = g) hM ha hb)
 have HT:=zIo hT
 obtain ⟨c0,c1,c2,c3,c4,c5,c6,c7,c8,c9,c10⟩:=hT.at
 clear hT hM ha hp
 go_enter Tryz.func86,Tryz.ntmps86
 go_wp2
 go_ret
 exact ⟨rfl,_,HS.out,HT.out⟩
theorem zHe (x y : Int) (j : Nat) (h4 : x = y ∧ k.read + 1 ≠ (k.N : Int)) (hp : k.ph = 0) (hk : k.Ok n C) (hj : (k.start + k.read) % (k.N : Int) = (j : Int)) (hx : C[j]? = some x) (hy : k.X[j]? = some y) (hT : IsSn base w b g k) (hM : IsMem base w p c v C L) (ha : ∀ i,(i = b ∨ i = g) → ¬ Foot p c v i) (hb : base ≤ w.heap.size) (hL : L.length < 1000000000) :
  Calls Tryz.prog 86 #[pt b,pt p] w (SnPost base w b g p c v ({ k with read:=k.read + 1 }) C (L ++ [⟨k.who,0,j,x,x,true⟩]) (.returned (i64 ({ k with read:=k.read + 1 }).ph))):=by
 obtain ⟨hl,hN,hlen,hX,s0,s1,r0,r1,p0,p1⟩:=hk
 subst hN
 have hn1:=hl.n1; have hn2:=hl.n2; have ht1:=hl.t1
 have hjN : (j : Int) < (k.N : Int):=by rw [← hj]; exact Int.emod_lt_of_pos _ (by omega)
 have hn0 : ¬ k.N = 0:=by omega
 have hjt : (k.start + k.read).tmod (k.N : Int) = (j : Int):=by rw [Int.tmod_eq_emod_of_nonneg (by omega)]; exact hj
 have e1 : IntKind.i64.wrap (k.start + k.read) = k.start + k.read:=IntWalk.i64_in _ (by omega)
 have e2 : wrap64 (k.read + 1) = k.read + 1:=by unfold wrap64; omega
 have qp : (k.ph != 0) = false:=by simp [hp]
 have HS:=zIo (Does.refl (B:=fun i=>i = b ∨ i = g) hM ha hb)
 have HX:=zIo hx
 have HY:=zIo hy
 have hA : AtSn w.drew b g k:=hT.drew.at
 have HT:=zIo hT
 have qx : (x != y) = false:=by simp [h4.1]
 have qr : (k.read + 1 == (k.N : Int)) = false:=by simp [h4.2]
 clear h4
 have HEND:=zIo (fun W (k1 : Sn) (h1 : k1.passes = k.passes) (hW : IsSn base W b g k1)=>zBq base W b g k1 (by omega) (by omega) hW)
 obtain ⟨c0,c1,c2,c3,c4,c5,c6,c7,c8,c9,c10⟩:=hT.at
 clear hx hy hT hM ha hj hp hX hlen p0 p1
 go_enter Tryz.func86,Tryz.ntmps86
 go_wp2_with fail
 clear c0 c1 c2 c3 c4 c5 c6 c7 c8 c9 c10
 refine zAD ((fun w'=>AtSn w' b g k)) ((0,true) :: (1,true) :: (2,true) :: (3,true) :: (4,true) :: (5,true) :: (6,true) :: (7,true) :: (8,true) :: (9,true) :: (10,true) :: (11,true) :: (12,true) :: (13,true) :: (14,true) :: (15,true) :: []) (by kernel_rfl) (by kernel_rfl) (by kernel_rfl) (by decide) (fun _ _ _ _ _ h=>h) (hA) ?_
 repeat ((first | (refine zAC (v := ?_) rfl ?_ ?_ ?_; rotate_left 1; rfl; focus (rintro wS ⟨c0,c1,c2,c3,c4,c5,c6,c7,c8,c9,c10⟩; go_simp <;> with_reducible rfl)) | (refine zAB rfl ?_ ?_; rfl)); try simp only [Act.put,qset])
 refine zAJ ?_
 replace HT:=zIo HT.out.drew
 replace HS:=zIo HS.out.drew
 clear hA
 (try rw [hjt])
 obtain ⟨c0,c1,c2,c3,c4,c5,c6,c7,c8,c9,c10⟩:=HT.out.at
 go_wp2_with fail
 clear c0 c1 c2 c3 c4 c5 c6 c7 c8 c9 c10
 refine zAD ((fun w'=>AtHead w' b k.t k.s k.so k.d k.who k.start)) ((0,true) :: (1,true) :: (2,true) :: (3,true) :: (4,true) :: (5,true) :: (6,true) :: (7,true) :: (8,true) :: (9,true) :: (10,false) :: (11,false) :: (12,true) :: []) (by kernel_rfl) (by kernel_rfl) (by kernel_rfl) (by decide) (fun _ _ _ _ _ h=>h) (HT.out.drew.head) ?_
 repeat ((first | (refine zAC (v := ?_) rfl ?_ ?_ ?_; rotate_left 1; rfl; focus (rintro wS ⟨c0,c1,c2,c3,c4,c5⟩; go_simp <;> with_reducible rfl)) | (refine zAB rfl ?_ ?_; rfl)); try simp only [Act.put,qset])
 refine zAH rfl (fun K hK=>?_)
 go_simp
 go_at_call 70
 refine (zAZ _ _ _ _ _ _).mono ?_
 rintro r w1 ⟨rfl,hb1⟩
 (try go_wp2_with fail)
 replace HT:=zIo (HT.out.drew.later hb1)
 replace HS:=zIo (HS.out.drew.later hb1)
 clear hb1
 refine hK.out _ _ (HT.out.head) (fun _=>?_)
 (try simp only [Act.put,qset])
 clear hK K
 repeat ((first | (refine zAC (v := ?_) rfl ?_ ?_ ?_; rotate_left 1; rfl; focus (rintro wS ⟨c0,c1,c2,c3,c4,c5⟩; go_simp <;> with_reducible rfl)) | (refine zAB rfl ?_ ?_; rfl)); try simp only [Act.put,qset])
 refine zAH rfl (fun K hK=>?_)
 go_simp
 go_at_call 92
 refine (zAt base _ p c _ _ _ k.who j x HS.out.mem HX.out HS.out.size hL).mono ?_
 rintro r w2 ⟨rfl,v2,hT2⟩
 (try go_wp2_with fail)
 have hlt1:=HT.out.obj.lt
 have hlt2:=HT.out.gb.2
 replace HT:=zIo (HT.out.keep hT2.keep (HS.out.apart b (.inl rfl)) (HS.out.apart g (.inr rfl)))
 replace HS:=zIo (HS.out.cells (fun i hi=>hi.elim (fun e=>e ▸ hlt1) (fun e=>e ▸ hlt2)) hT2)
 clear hT2 hlt1 hlt2
 refine hK.out _ _ (HT.out.head) (fun _=>?_)
 (try simp only [Act.put,qset])
 clear hK K
 repeat ((first | (refine zAC (v := ?_) rfl ?_ ?_ ?_; rotate_left 1; rfl; focus (rintro wS ⟨c0,c1,c2,c3,c4,c5⟩; go_simp <;> with_reducible rfl)) | (refine zAB rfl ?_ ?_; rfl)); try simp only [Act.put,qset])
 refine zAJ ?_
 obtain ⟨c0,c1,c2,c3,c4,c5,c6,c7,c8,c9,c10⟩:=HT.out.at
 have cx:=HT.out.cell HY.out
 have fx:=HT.out.row.frozenAt j
 have f6:=HT.out.obj.fz 6
 have f8:=HT.out.obj.fz 8
 have hne:=HT.out.ne
 go_wp2_with fail
 have HT3:=zIo (HT.out.set 6 (.int .i64 (k.read + 1)) (k' := { k with read:=k.read + 1 }) rfl rfl rfl)
 have HS3:=zIo (HS.out.own ((Keep.refl (fun i=>i = b ∨ i = g) _).setCell ⟨b,6,none⟩ (.inl rfl) (.int .i64 (k.read + 1))))
 clear c0 c1 c2 c3 c4 c5 c6 c7 c8 c9 c10 cx fx f6 f8
 refine zAD ((fun w'=>AtSn w' b g { k with read:=k.read + 1 })) ((0,true) :: (1,true) :: (2,true) :: (3,true) :: (4,true) :: (5,true) :: (6,true) :: (7,true) :: (8,true) :: (9,true) :: []) (by kernel_rfl) (by kernel_rfl) (by kernel_rfl) (by decide) (fun _ _ _ _ _ h=>h) (HT3.out.drew.at) ?_
 repeat ((first | (refine zAC (v := ?_) rfl ?_ ?_ ?_; rotate_left 1; rfl; focus (rintro wS ⟨d0,d1,d2,d3,d4,d5,d6,d7,d8,d9,d10⟩; go_simp <;> with_reducible rfl)) | (refine zAB rfl ?_ ?_; rfl)); try simp only [Act.put,qset])
 refine zAJ ?_
 replace HT3:=zIo HT3.out.drew
 replace HS3:=zIo HS3.out.drew
 obtain ⟨c0,c1,c2,c3,c4,c5,c6,c7,c8,c9,c10⟩:=HT3.out.at
 go_wp2
 go_ret
 exact ⟨rfl,_,HS3.out,HT3.out⟩
theorem zG8 (x y : Int) (j : Nat) (h4 : x ≠ y ∧ k.read + 1 ≠ (k.N : Int)) (hp : k.ph = 0) (hk : k.Ok n C) (hj : (k.start + k.read) % (k.N : Int) = (j : Int)) (hx : C[j]? = some x) (hy : k.X[j]? = some y) (hT : IsSn base w b g k) (hM : IsMem base w p c v C L) (ha : ∀ i,(i = b ∨ i = g) → ¬ Foot p c v i) (hb : base ≤ w.heap.size) (hL : L.length < 1000000000) :
  Calls Tryz.prog 86 #[pt b,pt p] w (SnPost base w b g p c v ({ k with X:=k.X.set j x,turned:=true,read:=k.read + 1 }) C (L ++ [⟨k.who,0,j,x,x,true⟩]) (.returned (i64 ({ k with X:=k.X.set j x,turned:=true,read:=k.read + 1 }).ph))):=by
 obtain ⟨hl,hN,hlen,hX,s0,s1,r0,r1,p0,p1⟩:=hk
 subst hN
 have hn1:=hl.n1; have hn2:=hl.n2; have ht1:=hl.t1
 have hjN : (j : Int) < (k.N : Int):=by rw [← hj]; exact Int.emod_lt_of_pos _ (by omega)
 have hn0 : ¬ k.N = 0:=by omega
 have hjt : (k.start + k.read).tmod (k.N : Int) = (j : Int):=by rw [Int.tmod_eq_emod_of_nonneg (by omega)]; exact hj
 have e1 : IntKind.i64.wrap (k.start + k.read) = k.start + k.read:=IntWalk.i64_in _ (by omega)
 have e2 : wrap64 (k.read + 1) = k.read + 1:=by unfold wrap64; omega
 have qp : (k.ph != 0) = false:=by simp [hp]
 have HS:=zIo (Does.refl (B:=fun i=>i = b ∨ i = g) hM ha hb)
 have HX:=zIo hx
 have HY:=zIo hy
 have hA : AtSn w.drew b g k:=hT.drew.at
 have HT:=zIo hT
 have qx : (x != y) = true:=by simp [h4.1]
 have qr : (k.read + 1 == (k.N : Int)) = false:=by simp [h4.2]
 clear h4
 have HEND:=zIo (fun W (k1 : Sn) (h1 : k1.passes = k.passes) (hW : IsSn base W b g k1)=>zBq base W b g k1 (by omega) (by omega) hW)
 obtain ⟨c0,c1,c2,c3,c4,c5,c6,c7,c8,c9,c10⟩:=hT.at
 clear hx hy hT hM ha hj hp hX hlen p0 p1
 go_enter Tryz.func86,Tryz.ntmps86
 go_wp2_with fail
 clear c0 c1 c2 c3 c4 c5 c6 c7 c8 c9 c10
 refine zAD ((fun w'=>AtSn w' b g k)) ((0,true) :: (1,true) :: (2,true) :: (3,true) :: (4,true) :: (5,true) :: (6,true) :: (7,true) :: (8,true) :: (9,true) :: (10,true) :: (11,true) :: (12,true) :: (13,true) :: (14,true) :: (15,true) :: []) (by kernel_rfl) (by kernel_rfl) (by kernel_rfl) (by decide) (fun _ _ _ _ _ h=>h) (hA) ?_
 repeat ((first | (refine zAC (v := ?_) rfl ?_ ?_ ?_; rotate_left 1; rfl; focus (rintro wS ⟨c0,c1,c2,c3,c4,c5,c6,c7,c8,c9,c10⟩; go_simp <;> with_reducible rfl)) | (refine zAB rfl ?_ ?_; rfl)); try simp only [Act.put,qset])
 refine zAJ ?_
 replace HT:=zIo HT.out.drew
 replace HS:=zIo HS.out.drew
 clear hA
 (try rw [hjt])
 obtain ⟨c0,c1,c2,c3,c4,c5,c6,c7,c8,c9,c10⟩:=HT.out.at
 go_wp2_with fail
 clear c0 c1 c2 c3 c4 c5 c6 c7 c8 c9 c10
 refine zAD ((fun w'=>AtHead w' b k.t k.s k.so k.d k.who k.start)) ((0,true) :: (1,true) :: (2,true) :: (3,true) :: (4,true) :: (5,true) :: (6,true) :: (7,true) :: (8,true) :: (9,true) :: (10,false) :: (11,false) :: (12,true) :: []) (by kernel_rfl) (by kernel_rfl) (by kernel_rfl) (by decide) (fun _ _ _ _ _ h=>h) (HT.out.drew.head) ?_
 repeat ((first | (refine zAC (v := ?_) rfl ?_ ?_ ?_; rotate_left 1; rfl; focus (rintro wS ⟨c0,c1,c2,c3,c4,c5⟩; go_simp <;> with_reducible rfl)) | (refine zAB rfl ?_ ?_; rfl)); try simp only [Act.put,qset])
 refine zAH rfl (fun K hK=>?_)
 go_simp
 go_at_call 70
 refine (zAZ _ _ _ _ _ _).mono ?_
 rintro r w1 ⟨rfl,hb1⟩
 (try go_wp2_with fail)
 replace HT:=zIo (HT.out.drew.later hb1)
 replace HS:=zIo (HS.out.drew.later hb1)
 clear hb1
 refine hK.out _ _ (HT.out.head) (fun _=>?_)
 (try simp only [Act.put,qset])
 clear hK K
 repeat ((first | (refine zAC (v := ?_) rfl ?_ ?_ ?_; rotate_left 1; rfl; focus (rintro wS ⟨c0,c1,c2,c3,c4,c5⟩; go_simp <;> with_reducible rfl)) | (refine zAB rfl ?_ ?_; rfl)); try simp only [Act.put,qset])
 refine zAH rfl (fun K hK=>?_)
 go_simp
 go_at_call 92
 refine (zAt base _ p c _ _ _ k.who j x HS.out.mem HX.out HS.out.size hL).mono ?_
 rintro r w2 ⟨rfl,v2,hT2⟩
 (try go_wp2_with fail)
 have hlt1:=HT.out.obj.lt
 have hlt2:=HT.out.gb.2
 replace HT:=zIo (HT.out.keep hT2.keep (HS.out.apart b (.inl rfl)) (HS.out.apart g (.inr rfl)))
 replace HS:=zIo (HS.out.cells (fun i hi=>hi.elim (fun e=>e ▸ hlt1) (fun e=>e ▸ hlt2)) hT2)
 clear hT2 hlt1 hlt2
 refine hK.out _ _ (HT.out.head) (fun _=>?_)
 (try simp only [Act.put,qset])
 clear hK K
 repeat ((first | (refine zAC (v := ?_) rfl ?_ ?_ ?_; rotate_left 1; rfl; focus (rintro wS ⟨c0,c1,c2,c3,c4,c5⟩; go_simp <;> with_reducible rfl)) | (refine zAB rfl ?_ ?_; rfl)); try simp only [Act.put,qset])
 refine zAJ ?_
 obtain ⟨c0,c1,c2,c3,c4,c5,c6,c7,c8,c9,c10⟩:=HT.out.at
 have cx:=HT.out.cell HY.out
 have fx:=HT.out.row.frozenAt j
 have f6:=HT.out.obj.fz 6
 have f8:=HT.out.obj.fz 8
 have hne:=HT.out.ne
 go_wp2_with fail
 have HT3:=zIo (((HT.out.word j x).set 8 (.bool true) (k' := { k with X:=k.X.set j x,turned:=true }) rfl rfl rfl).set 6 (.int .i64 (k.read + 1)) (k' := { k with X:=k.X.set j x,turned:=true,read:=k.read + 1 }) rfl rfl rfl)
 have HS3:=zIo (HS.out.own ((((Keep.refl (fun i=>i = b ∨ i = g) _).setCell ⟨g,j,none⟩ (.inr rfl) (u64 x)).setCell ⟨b,8,none⟩ (.inl rfl) (.bool true)).setCell ⟨b,6,none⟩ (.inl rfl) (.int .i64 (k.read + 1))))
 clear c0 c1 c2 c3 c4 c5 c6 c7 c8 c9 c10 cx fx f6 f8
 refine zAD ((fun w'=>AtSn w' b g { k with X:=k.X.set j x,turned:=true,read:=k.read + 1 })) ((0,true) :: (1,true) :: (2,true) :: (3,true) :: (4,true) :: (5,true) :: (6,true) :: (7,true) :: (8,true) :: (9,true) :: []) (by kernel_rfl) (by kernel_rfl) (by kernel_rfl) (by decide) (fun _ _ _ _ _ h=>h) (HT3.out.drew.at) ?_
 repeat ((first | (refine zAC (v := ?_) rfl ?_ ?_ ?_; rotate_left 1; rfl; focus (rintro wS ⟨d0,d1,d2,d3,d4,d5,d6,d7,d8,d9,d10⟩; go_simp <;> with_reducible rfl)) | (refine zAB rfl ?_ ?_; rfl)); try simp only [Act.put,qset])
 refine zAJ ?_
 replace HT3:=zIo HT3.out.drew
 replace HS3:=zIo HS3.out.drew
 obtain ⟨c0,c1,c2,c3,c4,c5,c6,c7,c8,c9,c10⟩:=HT3.out.at
 go_wp2
 go_ret
 exact ⟨rfl,_,HS3.out,HT3.out⟩
theorem zHj (x y : Int) (j : Nat) (h4 : x = y ∧ k.read + 1 = (k.N : Int)) (hp : k.ph = 0) (hk : k.Ok n C) (hj : (k.start + k.read) % (k.N : Int) = (j : Int)) (hx : C[j]? = some x) (hy : k.X[j]? = some y) (hT : IsSn base w b g k) (hM : IsMem base w p c v C L) (ha : ∀ i,(i = b ∨ i = g) → ¬ Foot p c v i) (hb : base ≤ w.heap.size) (hL : L.length < 1000000000) :
  Calls Tryz.prog 86 #[pt b,pt p] w (SnPost base w b g p c v (Sn.fin { k with read:=k.read + 1 }) C (L ++ [⟨k.who,0,j,x,x,true⟩]) (.returned (i64 (Sn.fin { k with read:=k.read + 1 }).ph))):=by
 obtain ⟨hl,hN,hlen,hX,s0,s1,r0,r1,p0,p1⟩:=hk
 subst hN
 have hn1:=hl.n1; have hn2:=hl.n2; have ht1:=hl.t1
 have hjN : (j : Int) < (k.N : Int):=by rw [← hj]; exact Int.emod_lt_of_pos _ (by omega)
 have hn0 : ¬ k.N = 0:=by omega
 have hjt : (k.start + k.read).tmod (k.N : Int) = (j : Int):=by rw [Int.tmod_eq_emod_of_nonneg (by omega)]; exact hj
 have e1 : IntKind.i64.wrap (k.start + k.read) = k.start + k.read:=IntWalk.i64_in _ (by omega)
 have e2 : wrap64 (k.read + 1) = k.read + 1:=by unfold wrap64; omega
 have qp : (k.ph != 0) = false:=by simp [hp]
 have HS:=zIo (Does.refl (B:=fun i=>i = b ∨ i = g) hM ha hb)
 have HX:=zIo hx
 have HY:=zIo hy
 have hA : AtSn w.drew b g k:=hT.drew.at
 have HT:=zIo hT
 have qx : (x != y) = false:=by simp [h4.1]
 have qr : (k.read + 1 == (k.N : Int)) = true:=by simp [h4.2]
 clear h4
 have HEND:=zIo (fun W (k1 : Sn) (h1 : k1.passes = k.passes) (hW : IsSn base W b g k1)=>zBq base W b g k1 (by omega) (by omega) hW)
 obtain ⟨c0,c1,c2,c3,c4,c5,c6,c7,c8,c9,c10⟩:=hT.at
 clear hx hy hT hM ha hj hp hX hlen p0 p1
 go_enter Tryz.func86,Tryz.ntmps86
 go_wp2_with fail
 clear c0 c1 c2 c3 c4 c5 c6 c7 c8 c9 c10
 refine zAD ((fun w'=>AtSn w' b g k)) ((0,true) :: (1,true) :: (2,true) :: (3,true) :: (4,true) :: (5,true) :: (6,true) :: (7,true) :: (8,true) :: (9,true) :: (10,true) :: (11,true) :: (12,true) :: (13,true) :: (14,true) :: (15,true) :: []) (by kernel_rfl) (by kernel_rfl) (by kernel_rfl) (by decide) (fun _ _ _ _ _ h=>h) (hA) ?_
 repeat ((first | (refine zAC (v := ?_) rfl ?_ ?_ ?_; rotate_left 1; rfl; focus (rintro wS ⟨c0,c1,c2,c3,c4,c5,c6,c7,c8,c9,c10⟩; go_simp <;> with_reducible rfl)) | (refine zAB rfl ?_ ?_; rfl)); try simp only [Act.put,qset])
 refine zAJ ?_
 replace HT:=zIo HT.out.drew
 replace HS:=zIo HS.out.drew
 clear hA
 (try rw [hjt])
 obtain ⟨c0,c1,c2,c3,c4,c5,c6,c7,c8,c9,c10⟩:=HT.out.at
 go_wp2_with fail
 clear c0 c1 c2 c3 c4 c5 c6 c7 c8 c9 c10
 refine zAD ((fun w'=>AtHead w' b k.t k.s k.so k.d k.who k.start)) ((0,true) :: (1,true) :: (2,true) :: (3,true) :: (4,true) :: (5,true) :: (6,true) :: (7,true) :: (8,true) :: (9,true) :: (10,false) :: (11,false) :: (12,true) :: []) (by kernel_rfl) (by kernel_rfl) (by kernel_rfl) (by decide) (fun _ _ _ _ _ h=>h) (HT.out.drew.head) ?_
 repeat ((first | (refine zAC (v := ?_) rfl ?_ ?_ ?_; rotate_left 1; rfl; focus (rintro wS ⟨c0,c1,c2,c3,c4,c5⟩; go_simp <;> with_reducible rfl)) | (refine zAB rfl ?_ ?_; rfl)); try simp only [Act.put,qset])
 refine zAH rfl (fun K hK=>?_)
 go_simp
 go_at_call 70
 refine (zAZ _ _ _ _ _ _).mono ?_
 rintro r w1 ⟨rfl,hb1⟩
 (try go_wp2_with fail)
 replace HT:=zIo (HT.out.drew.later hb1)
 replace HS:=zIo (HS.out.drew.later hb1)
 clear hb1
 refine hK.out _ _ (HT.out.head) (fun _=>?_)
 (try simp only [Act.put,qset])
 clear hK K
 repeat ((first | (refine zAC (v := ?_) rfl ?_ ?_ ?_; rotate_left 1; rfl; focus (rintro wS ⟨c0,c1,c2,c3,c4,c5⟩; go_simp <;> with_reducible rfl)) | (refine zAB rfl ?_ ?_; rfl)); try simp only [Act.put,qset])
 refine zAH rfl (fun K hK=>?_)
 go_simp
 go_at_call 92
 refine (zAt base _ p c _ _ _ k.who j x HS.out.mem HX.out HS.out.size hL).mono ?_
 rintro r w2 ⟨rfl,v2,hT2⟩
 (try go_wp2_with fail)
 have hlt1:=HT.out.obj.lt
 have hlt2:=HT.out.gb.2
 replace HT:=zIo (HT.out.keep hT2.keep (HS.out.apart b (.inl rfl)) (HS.out.apart g (.inr rfl)))
 replace HS:=zIo (HS.out.cells (fun i hi=>hi.elim (fun e=>e ▸ hlt1) (fun e=>e ▸ hlt2)) hT2)
 clear hT2 hlt1 hlt2
 refine hK.out _ _ (HT.out.head) (fun _=>?_)
 (try simp only [Act.put,qset])
 clear hK K
 repeat ((first | (refine zAC (v := ?_) rfl ?_ ?_ ?_; rotate_left 1; rfl; focus (rintro wS ⟨c0,c1,c2,c3,c4,c5⟩; go_simp <;> with_reducible rfl)) | (refine zAB rfl ?_ ?_; rfl)); try simp only [Act.put,qset])
 refine zAJ ?_
 obtain ⟨c0,c1,c2,c3,c4,c5,c6,c7,c8,c9,c10⟩:=HT.out.at
 have cx:=HT.out.cell HY.out
 have fx:=HT.out.row.frozenAt j
 have f6:=HT.out.obj.fz 6
 have f8:=HT.out.obj.fz 8
 have hne:=HT.out.ne
 go_wp2_with fail
 have HT3:=zIo (HT.out.set 6 (.int .i64 (k.read + 1)) (k' := { k with read:=k.read + 1 }) rfl rfl rfl)
 have HS3:=zIo (HS.out.own ((Keep.refl (fun i=>i = b ∨ i = g) _).setCell ⟨b,6,none⟩ (.inl rfl) (.int .i64 (k.read + 1))))
 clear c0 c1 c2 c3 c4 c5 c6 c7 c8 c9 c10 cx fx f6 f8
 refine zAD ((fun w'=>AtSn w' b g { k with read:=k.read + 1 })) ((0,true) :: (1,true) :: (2,true) :: (3,true) :: (4,true) :: (5,true) :: (6,true) :: (7,true) :: (8,true) :: (9,true) :: []) (by kernel_rfl) (by kernel_rfl) (by kernel_rfl) (by decide) (fun _ _ _ _ _ h=>h) (HT3.out.drew.at) ?_
 repeat ((first | (refine zAC (v := ?_) rfl ?_ ?_ ?_; rotate_left 1; rfl; focus (rintro wS ⟨d0,d1,d2,d3,d4,d5,d6,d7,d8,d9,d10⟩; go_simp <;> with_reducible rfl)) | (refine zAB rfl ?_ ?_; rfl)); try simp only [Act.put,qset])
 refine zAJ ?_
 replace HT3:=zIo HT3.out.drew
 replace HS3:=zIo HS3.out.drew
 go_wp2_with fail
 refine (HEND.out _ { k with read:=k.read + 1 } rfl HT3.out).mono ?_
 rintro r w5 ⟨rfl,hT5,hK5⟩
 have HS5:=zIo (HS3.out.own (hK5.mono fun i h=>.inl h))
 have HT5:=zIo hT5
 clear hT5 hK5
 obtain ⟨c0,c1,c2,c3,c4,c5,c6,c7,c8,c9,c10⟩:=HT5.out.at
 go_wp2
 go_ret
 exact ⟨rfl,_,HS5.out,HT5.out⟩
theorem zHO (x y : Int) (j : Nat) (h4 : x ≠ y ∧ k.read + 1 = (k.N : Int)) (hp : k.ph = 0) (hk : k.Ok n C) (hj : (k.start + k.read) % (k.N : Int) = (j : Int)) (hx : C[j]? = some x) (hy : k.X[j]? = some y) (hT : IsSn base w b g k) (hM : IsMem base w p c v C L) (ha : ∀ i,(i = b ∨ i = g) → ¬ Foot p c v i) (hb : base ≤ w.heap.size) (hL : L.length < 1000000000) :
  Calls Tryz.prog 86 #[pt b,pt p] w (SnPost base w b g p c v (Sn.fin { k with X:=k.X.set j x,turned:=true,read:=k.read + 1 }) C (L ++ [⟨k.who,0,j,x,x,true⟩]) (.returned (i64 (Sn.fin { k with X:=k.X.set j x,turned:=true,read:=k.read + 1 }).ph))):=by
 obtain ⟨hl,hN,hlen,hX,s0,s1,r0,r1,p0,p1⟩:=hk
 subst hN
 have hn1:=hl.n1; have hn2:=hl.n2; have ht1:=hl.t1
 have hjN : (j : Int) < (k.N : Int):=by rw [← hj]; exact Int.emod_lt_of_pos _ (by omega)
 have hn0 : ¬ k.N = 0:=by omega
 have hjt : (k.start + k.read).tmod (k.N : Int) = (j : Int):=by rw [Int.tmod_eq_emod_of_nonneg (by omega)]; exact hj
 have e1 : IntKind.i64.wrap (k.start + k.read) = k.start + k.read:=IntWalk.i64_in _ (by omega)
 have e2 : wrap64 (k.read + 1) = k.read + 1:=by unfold wrap64; omega
 have qp : (k.ph != 0) = false:=by simp [hp]
 have HS:=zIo (Does.refl (B:=fun i=>i = b ∨ i = g) hM ha hb)
 have HX:=zIo hx
 have HY:=zIo hy
 have hA : AtSn w.drew b g k:=hT.drew.at
 have HT:=zIo hT
 have qx : (x != y) = true:=by simp [h4.1]
 have qr : (k.read + 1 == (k.N : Int)) = true:=by simp [h4.2]
 clear h4
 have HEND:=zIo (fun W (k1 : Sn) (h1 : k1.passes = k.passes) (hW : IsSn base W b g k1)=>zBq base W b g k1 (by omega) (by omega) hW)
 obtain ⟨c0,c1,c2,c3,c4,c5,c6,c7,c8,c9,c10⟩:=hT.at
 clear hx hy hT hM ha hj hp hX hlen p0 p1
 go_enter Tryz.func86,Tryz.ntmps86
 go_wp2_with fail
 clear c0 c1 c2 c3 c4 c5 c6 c7 c8 c9 c10
 refine zAD ((fun w'=>AtSn w' b g k)) ((0,true) :: (1,true) :: (2,true) :: (3,true) :: (4,true) :: (5,true) :: (6,true) :: (7,true) :: (8,true) :: (9,true) :: (10,true) :: (11,true) :: (12,true) :: (13,true) :: (14,true) :: (15,true) :: []) (by kernel_rfl) (by kernel_rfl) (by kernel_rfl) (by decide) (fun _ _ _ _ _ h=>h) (hA) ?_
 repeat ((first | (refine zAC (v := ?_) rfl ?_ ?_ ?_; rotate_left 1; rfl; focus (rintro wS ⟨c0,c1,c2,c3,c4,c5,c6,c7,c8,c9,c10⟩; go_simp <;> with_reducible rfl)) | (refine zAB rfl ?_ ?_; rfl)); try simp only [Act.put,qset])
 refine zAJ ?_
 replace HT:=zIo HT.out.drew
 replace HS:=zIo HS.out.drew
 clear hA
 (try rw [hjt])
 obtain ⟨c0,c1,c2,c3,c4,c5,c6,c7,c8,c9,c10⟩:=HT.out.at
 go_wp2_with fail
 clear c0 c1 c2 c3 c4 c5 c6 c7 c8 c9 c10
 refine zAD ((fun w'=>AtHead w' b k.t k.s k.so k.d k.who k.start)) ((0,true) :: (1,true) :: (2,true) :: (3,true) :: (4,true) :: (5,true) :: (6,true) :: (7,true) :: (8,true) :: (9,true) :: (10,false) :: (11,false) :: (12,true) :: []) (by kernel_rfl) (by kernel_rfl) (by kernel_rfl) (by decide) (fun _ _ _ _ _ h=>h) (HT.out.drew.head) ?_
 repeat ((first | (refine zAC (v := ?_) rfl ?_ ?_ ?_; rotate_left 1; rfl; focus (rintro wS ⟨c0,c1,c2,c3,c4,c5⟩; go_simp <;> with_reducible rfl)) | (refine zAB rfl ?_ ?_; rfl)); try simp only [Act.put,qset])
 refine zAH rfl (fun K hK=>?_)
 go_simp
 go_at_call 70
 refine (zAZ _ _ _ _ _ _).mono ?_
 rintro r w1 ⟨rfl,hb1⟩
 (try go_wp2_with fail)
 replace HT:=zIo (HT.out.drew.later hb1)
 replace HS:=zIo (HS.out.drew.later hb1)
 clear hb1
 refine hK.out _ _ (HT.out.head) (fun _=>?_)
 (try simp only [Act.put,qset])
 clear hK K
 repeat ((first | (refine zAC (v := ?_) rfl ?_ ?_ ?_; rotate_left 1; rfl; focus (rintro wS ⟨c0,c1,c2,c3,c4,c5⟩; go_simp <;> with_reducible rfl)) | (refine zAB rfl ?_ ?_; rfl)); try simp only [Act.put,qset])
 refine zAH rfl (fun K hK=>?_)
 go_simp
 go_at_call 92
 refine (zAt base _ p c _ _ _ k.who j x HS.out.mem HX.out HS.out.size hL).mono ?_
 rintro r w2 ⟨rfl,v2,hT2⟩
 (try go_wp2_with fail)
 have hlt1:=HT.out.obj.lt
 have hlt2:=HT.out.gb.2
 replace HT:=zIo (HT.out.keep hT2.keep (HS.out.apart b (.inl rfl)) (HS.out.apart g (.inr rfl)))
 replace HS:=zIo (HS.out.cells (fun i hi=>hi.elim (fun e=>e ▸ hlt1) (fun e=>e ▸ hlt2)) hT2)
 clear hT2 hlt1 hlt2
 refine hK.out _ _ (HT.out.head) (fun _=>?_)
 (try simp only [Act.put,qset])
 clear hK K
 repeat ((first | (refine zAC (v := ?_) rfl ?_ ?_ ?_; rotate_left 1; rfl; focus (rintro wS ⟨c0,c1,c2,c3,c4,c5⟩; go_simp <;> with_reducible rfl)) | (refine zAB rfl ?_ ?_; rfl)); try simp only [Act.put,qset])
 refine zAJ ?_
 obtain ⟨c0,c1,c2,c3,c4,c5,c6,c7,c8,c9,c10⟩:=HT.out.at
 have cx:=HT.out.cell HY.out
 have fx:=HT.out.row.frozenAt j
 have f6:=HT.out.obj.fz 6
 have f8:=HT.out.obj.fz 8
 have hne:=HT.out.ne
 go_wp2_with fail
 have HT3:=zIo (((HT.out.word j x).set 8 (.bool true) (k' := { k with X:=k.X.set j x,turned:=true }) rfl rfl rfl).set 6 (.int .i64 (k.read + 1)) (k' := { k with X:=k.X.set j x,turned:=true,read:=k.read + 1 }) rfl rfl rfl)
 have HS3:=zIo (HS.out.own ((((Keep.refl (fun i=>i = b ∨ i = g) _).setCell ⟨g,j,none⟩ (.inr rfl) (u64 x)).setCell ⟨b,8,none⟩ (.inl rfl) (.bool true)).setCell ⟨b,6,none⟩ (.inl rfl) (.int .i64 (k.read + 1))))
 clear c0 c1 c2 c3 c4 c5 c6 c7 c8 c9 c10 cx fx f6 f8
 refine zAD ((fun w'=>AtSn w' b g { k with X:=k.X.set j x,turned:=true,read:=k.read + 1 })) ((0,true) :: (1,true) :: (2,true) :: (3,true) :: (4,true) :: (5,true) :: (6,true) :: (7,true) :: (8,true) :: (9,true) :: []) (by kernel_rfl) (by kernel_rfl) (by kernel_rfl) (by decide) (fun _ _ _ _ _ h=>h) (HT3.out.drew.at) ?_
 repeat ((first | (refine zAC (v := ?_) rfl ?_ ?_ ?_; rotate_left 1; rfl; focus (rintro wS ⟨d0,d1,d2,d3,d4,d5,d6,d7,d8,d9,d10⟩; go_simp <;> with_reducible rfl)) | (refine zAB rfl ?_ ?_; rfl)); try simp only [Act.put,qset])
 refine zAJ ?_
 replace HT3:=zIo HT3.out.drew
 replace HS3:=zIo HS3.out.drew
 go_wp2_with fail
 refine (HEND.out _ { k with X:=k.X.set j x,turned:=true,read:=k.read + 1 } rfl HT3.out).mono ?_
 rintro r w5 ⟨rfl,hT5,hK5⟩
 have HS5:=zIo (HS3.out.own (hK5.mono fun i h=>.inl h))
 have HT5:=zIo hT5
 clear hT5 hK5
 obtain ⟨c0,c1,c2,c3,c4,c5,c6,c7,c8,c9,c10⟩:=HT5.out.at
 go_wp2
 go_ret
 exact ⟨rfl,_,HS5.out,HT5.out⟩
theorem zFB (hk : k.Ok n C) (hT : IsSn base w b g k) (hM : IsMem base w p c v C L) (ha : ∀ i,(i = b ∨ i = g) → ¬ Foot p c v i) (hb : base ≤ w.heap.size) (hL : L.length < 1000000000) :
  Calls Tryz.prog 86 #[pt b,pt p] w (SnPost base w b g p c v (k.step C) C (L ++ k.ev C) (.returned (i64 (k.step C).ph))):=by
 have hn1:=hk.lay.n1; have hn2:=hk.lay.n2; have ht1:=hk.lay.t1
 have hN:=hk.N; have hlen:=hk.len; have hX:=hk.X
 unfold Sn.step Sn.ev
 by_cases hp : k.ph = 0
 ·rw [if_pos hp,if_pos hp]
  have hm0:=Int.emod_nonneg (k.start + k.read) (show (k.N : Int) ≠ 0 by omega)
  have hm1:=Int.emod_lt_of_pos (k.start + k.read) (show (0 : Int) < (k.N : Int) by omega)
  have hj : (k.start + k.read) % (k.N : Int) = (k.slot : Int):=by unfold Sn.slot; omega
  have hjN : k.slot < k.N:=by omega
  have hx : C[k.slot]? = some (C.getD k.slot 0):=zBc (by omega)
  have hy : k.X[k.slot]? = some (k.X.getD k.slot 0):=zBc (by omega)
  generalize hxx : C.getD k.slot 0 = x at hx ⊢
  generalize hyy : k.X.getD k.slot 0 = y at hy
  have hput : k.put x = if x = y then { k with read:=k.read + 1 } else { k with X:=k.X.set k.slot x,turned:=true,read:=k.read + 1 }:=by
   unfold Sn.put
   rw [hyy]
   by_cases he : x = y
   ·rw [if_pos he,he,zDD hy]
    simp
   ·rw [if_neg he]
    simp [he]
  by_cases he : x = y
  ·rw [if_pos he] at hput
   rw [hput]
   by_cases hr : k.read + 1 = (k.N : Int)
   ·rw [if_pos hr]
    exact zHj base w b g p c v C L k n x y k.slot ⟨he,hr⟩ hp hk hj hx hy hT hM ha hb hL
   ·rw [if_neg hr]
    exact zHe base w b g p c v C L k n x y k.slot ⟨he,hr⟩ hp hk hj hx hy hT hM ha hb hL
  ·rw [if_neg he] at hput
   rw [hput]
   by_cases hr : k.read + 1 = (k.N : Int)
   ·rw [if_pos hr]
    exact zHO base w b g p c v C L k n x y k.slot ⟨he,hr⟩ hp hk hj hx hy hT hM ha hb hL
   ·rw [if_neg hr]
    exact zG8 base w b g p c v C L k n x y k.slot ⟨he,hr⟩ hp hk hj hx hy hT hM ha hb hL
 ·rw [if_neg hp,if_neg hp,List.append_nil]
  exact zEE base w b g p c v C L k hp hT hM ha hb
end
end
section
structure SnAt (k : Sn) (N st r P : Nat) : Prop where
 hN : k.N = N
 start : k.start = (st : Int)
 read : k.read = (r : Int)
 passes : k.passes = (P : Int)
 X : k.X.length = N
 s1 : st < N
 r1 : r < N
def SnSame (k k' : Sn) : Prop:=k'.t = k.t ∧ k'.s = k.s ∧ k'.so = k.so ∧ k'.d = k.d ∧ k'.who = k.who
section
variable {k : Sn} {N st r P : Nat} {C : List Int}
theorem SnAt.slot (h : SnAt k N st r P) : k.slot = (st + r) % N:=by
 unfold Sn.slot
 rw [h.hN,h.start,h.read, ← Int.natCast_add, ← Int.natCast_emod,Int.toNat_natCast]
theorem SnAt.slot_lt (h : SnAt k N st r P) : k.slot < N:=by
 rw [h.slot]
 exact Nat.mod_lt _ (by have:=h.r1; omega)
theorem zHw {N st j : Nat} (hs : st < N) (hj : j < N) : ∃ q,q < N ∧ (st + q) % N = j:=by
 by_cases h : st ≤ j
 ·exact ⟨j - st,by omega,by rw [show st + (j - st) = j by omega,Nat.mod_eq_of_lt hj]⟩
 ·exact ⟨j + N - st,by omega,by rw [show st + (j + N - st) = j + N by omega,Nat.add_mod_right,Nat.mod_eq_of_lt hj]⟩
theorem SnAt.mid (h : SnAt k N st r P) (hp : k.ph = 0) (hr : r + 1 < N) :
  SnAt (k.step C) N st (r + 1) P ∧ (k.step C).ph = 0 ∧ SnSame k (k.step C) ∧ (k.step C).X = k.X.set k.slot (C.getD k.slot 0) ∧ (k.step C).turned = (k.turned || decide (C.getD k.slot 0 ≠ k.X.getD k.slot 0)):=by
 have hN:=h.hN
 have hr2:=h.read
 have e : k.step C = k.put (C.getD k.slot 0):=by
  unfold Sn.step
  rw [if_pos hp,if_neg (by omega)]
 rw [e]
 exact ⟨⟨h.hN,h.start,by show k.read + 1 = _; omega,h.passes,by show (k.X.set _ _).length = N; rw [List.length_set]; exact h.X,h.s1,hr⟩,hp,⟨rfl,rfl,rfl,rfl,rfl⟩,rfl,rfl⟩
theorem SnAt.last (h : SnAt k N st r P) (hp : k.ph = 0) (hr : r + 1 = N) :
  SnAt (k.step C) N st 0 (P + 1) ∧ SnSame k (k.step C) ∧ (k.step C).X = k.X.set k.slot (C.getD k.slot 0) ∧ (k.step C).turned = false ∧
   (k.step C).ph = if 1 ≤ P ∧ (k.turned || decide (C.getD k.slot 0 ≠ k.X.getD k.slot 0)) = false then 1 else 0:=by
 have hN:=h.hN
 have hr2:=h.read
 have hP:=h.passes
 have e : k.step C = (k.put (C.getD k.slot 0)).fin:=by
  unfold Sn.step
  rw [if_pos hp,if_pos (by omega)]
 rw [e]
 refine ⟨⟨h.hN,h.start,rfl,by show k.passes + 1 = _; omega,by show (k.X.set _ _).length = N; rw [List.length_set]; exact h.X,h.s1,by have:=h.r1; omega⟩,⟨rfl,rfl,rfl,rfl,rfl⟩,rfl,rfl, ?_⟩
 show (if 1 < k.passes + 1 ∧ (k.turned || decide (C.getD k.slot 0 ≠ k.X.getD k.slot 0)) = false then 1 else k.ph) = _
 rw [hp]
 by_cases hc : 1 ≤ P ∧ (k.turned || decide (C.getD k.slot 0 ≠ k.X.getD k.slot 0)) = false
 ·rw [if_pos hc,if_pos ⟨by omega,hc.2⟩]
 ·rw [if_neg hc,if_neg (fun h2=>hc ⟨by omega,h2.2⟩)]
structure QInv (k : Sn) (C : List Int) (N st r P B : Nat) (last : Int) : Prop where
 at' : SnAt k N st r P
 ph : k.ph = 0
 a : last ≠ P → ∀ q,q < r → k.X.getD ((st + q) % N) 0 = C.getD ((st + q) % N) 0
 b : 1 ≤ P → last < (P : Int) - 1 → (∀ j,j < N → k.X.getD j 0 = C.getD j 0) ∧ k.turned = false
 c1 : last = P → P + 1 ≤ B
 c2 : last ≠ P → (P = 0 ∨ last = (P : Int) - 1) → P ≤ B
 c3 : P ≤ B + 1
 l : last ≤ P
structure DInv (k : Sn) (C : List Int) (N st P B : Nat) (last : Int) : Prop where
 at' : SnAt k N st 0 P
 ph : k.ph = 1
 p : 2 ≤ P
 b : P ≤ B + 2
 x : last < (P : Int) - 1 → ∀ j,j < N → k.X.getD j 0 = C.getD j 0
theorem zH7 (t s so d who : Int) (N st : Nat) (hs : st < N) : SnAt (sn0 t s so d who st N) N st 0 0 :=
 ⟨rfl,rfl,rfl,rfl,List.length_replicate,hs,by omega⟩
theorem QInv.start (t s so d who : Int) (C : List Int) (N st B : Nat) (hs : st < N) : QInv (sn0 t s so d who st N) C N st 0 0 B (-1) :=
 ⟨zH7 t s so d who N st hs,rfl,fun _ q hq=>by omega,fun h=>by omega,fun h=>by simp at h,fun _ _=>by omega,by omega,by decide⟩
theorem QInv.store {last : Int} {B : Nat} (h : QInv k C N st r P B last) (C' : List Int) : QInv k C' N st r P (if last = (P : Int) then B else B + 2) P:=by
 have h1:=h.c1; have h3:=h.c3
 refine ⟨h.at',h.ph,fun e=>absurd rfl e,fun _ e=>by omega,fun _=>?_,fun e=>absurd rfl e, ?_,Int.le_refl _⟩
 ·split
  ·rename_i e
   exact h1 e
  ·omega
 ·split <;> omega
theorem zCH (X : List Int) (j i : Nat) (x : Int) (hj : j < X.length) : (X.set j x).getD i 0 = if j = i then x else X.getD i 0:=by
 rw [zAs]
 by_cases h : j = i
 ·subst h
  rw [if_pos ⟨rfl,hj⟩,if_pos rfl]
 ·rw [if_neg (fun e=>h e.1),if_neg h]
theorem QInv.mid {last : Int} {B : Nat} (h : QInv k C N st r P B last) (hr : r + 1 < N) : QInv (k.step C) C N st (r + 1) P B last:=by
 obtain ⟨m1,m2,m3,m4,m5⟩:=h.at'.mid (C:=C) h.ph hr
 have hsl:=h.at'.slot
 have hlt:=h.at'.slot_lt
 have hX:=h.at'.X
 refine ⟨m1,m2,fun hl q hq=>?_,fun hP hl=>?_,h.c1,h.c2,h.c3,h.l⟩
 ·rw [m4,zCH _ _ _ _ (by omega),hsl]
  split
  ·rename_i e
   rw [e]
  ·rename_i e
   have : q ≠ r:=fun e2=>e (by rw [e2])
   exact h.a hl q (by omega)
 ·obtain ⟨b1,b2⟩:=h.b hP hl
  refine ⟨fun j hj=>?_, ?_⟩
  ·rw [m4,zCH _ _ _ _ (by omega)]
   split
   ·rename_i e
    rw [e]
   ·exact b1 j hj
  ·rw [m5,b2,b1 _ hlt]
   simp
theorem QInv.last {last : Int} {B : Nat} (h : QInv k C N st r P B last) (hr : r + 1 = N) : QInv (k.step C) C N st 0 (P + 1) B last ∨ DInv (k.step C) C N st (P + 1) B last:=by
 obtain ⟨m1,m3,m4,m6,m7⟩:=h.at'.last (C:=C) h.ph hr
 have hsl:=h.at'.slot
 have hlt:=h.at'.slot_lt
 have hX:=h.at'.X
 have h1:=h.c1; have h2:=h.c2; have h3:=h.c3; have hl:=h.l
 have full : last ≠ P → ∀ j,j < N → (k.step C).X.getD j 0 = C.getD j 0:=by
  intro hne j hj
  rw [m4,zCH _ _ _ _ (by omega)]
  split
  ·rename_i e
   rw [e]
  ·rename_i e
   obtain ⟨q,hq,rfl⟩:=zHw h.at'.s1 hj
   have : q ≠ r:=fun e2=>e (by rw [e2,hsl])
   exact h.a hne q (by omega)
 by_cases hd : 1 ≤ P ∧ (k.turned || decide (C.getD k.slot 0 ≠ k.X.getD k.slot 0)) = false
 ·rw [if_pos hd] at m7
  exact .inr ⟨m1,m7,by omega,by omega,fun hlt2=>full (by omega)⟩
 ·rw [if_neg hd] at m7
  refine .inl ⟨m1,m7,fun _ q hq=>by omega,fun _ hl2=>⟨full (by omega),m6⟩,fun e=>by omega,fun _ hc=>?_, ?_,by omega⟩
  ·rcases hc with hc | hc
   ·omega
   ·exact h1 (by omega)
  ·by_cases e : last = (P : Int)
   ·have:=h1 e; omega
   ·by_cases e2 : P = 0 ∨ last = (P : Int) - 1
    ·have:=h2 e e2; omega
    ·exfalso
     obtain ⟨b1,b2⟩:=h.b (by omega) (by omega)
     refine hd ⟨by omega, ?_⟩
     rw [b2,b1 _ hlt]
     simp
def Snap (k : Sn) (C : List Int) (N st i B : Nat) (last : Int) : Prop :=
 (∃ P r,i = P * N + r ∧ QInv k C N st r P B last) ∨ (∃ P,i = P * N ∧ DInv k C N st P B last)
theorem Snap.step {last : Int} {B i : Nat} (h : Snap k C N st i B last) (hp : k.ph = 0) : Snap (k.step C) C N st (i + 1) B last:=by
 rcases h with ⟨P,r,hi,h⟩ | ⟨P,hi,h⟩
 ·rcases (by have:=h.at'.r1; omega : r + 1 < N ∨ r + 1 = N) with hr | hr
  ·exact .inl ⟨P,r + 1,by omega,h.mid hr⟩
  ·rcases h.last hr with h1 | h1
   ·exact .inl ⟨P + 1,0,by rw [Nat.add_mul]; omega,h1⟩
   ·exact .inr ⟨P + 1,by rw [Nat.add_mul]; omega,h1⟩
 ·have:=h.ph
  omega
end
end
section
section
variable {W w w' : World} {p c b g : Nat} {v v' : Value} {C C' : List Int} {L L' : List Ev} {k k' : Sn} {R : List Thing}
end
theorem Sn.ev_le (k : Sn) (C : List Int) : (k.ev C).length ≤ 1:=by
 unfold Sn.ev
 split <;> simp
section
variable {k : Sn} {C : List Int} {N st i B : Nat} {last : Int}
theorem Snap.cases (h : Snap k C N st i B last) : (k.ph = 0 ∧ i < (B + 2) * N) ∨ (k.ph = 1 ∧ ∃ P,i = P * N ∧ k.passes = (P : Int) ∧ 2 ≤ P ∧ P ≤ B + 2 ∧ (last < (P : Int) - 1 → ∀ j,j < N → k.X.getD j 0 = C.getD j 0)):=by
 rcases h with ⟨P,r,hi,h⟩ | ⟨P,hi,h⟩
 ·have h1:=Nat.mul_le_mul_right N h.c3
  have h2:=h.at'.r1
  refine .inl ⟨h.ph, ?_⟩
  rw [Nat.add_mul] at h1 ⊢
  omega
 ·exact .inr ⟨h.ph,P,hi,h.at'.passes,h.p,h.b,h.x⟩
theorem Snap.X (h : Snap k C N st i B last) : k.X.length = N ∧ k.N = N:=by
 rcases h with ⟨P,r,hi,h⟩ | ⟨P,hi,h⟩
 ·exact ⟨h.at'.X,h.at'.hN⟩
 ·exact ⟨h.at'.X,h.at'.hN⟩
theorem Snap.start (t s so d who : Int) (C : List Int) (N st B : Nat) (hs : st < N) : Snap (sn0 t s so d who st N) C N st 0 B (-1) :=
 .inl ⟨0,0,by omega,QInv.start t s so d who C N st B hs⟩
end
end
end
end Go.Proofs.YtjlpidjilonhfaaGreat
